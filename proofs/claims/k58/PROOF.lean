import PyProof.Rows.All
import Wide.All
import OpenK.AllK
import Wide.FinOn
import Lean
import PyProof.EqAt
import PyProof.EqKinds
import PyProof.TupleCall
import KE.KSortAsk
import PyProof.NeKinds
import PyProof.StationsW
import PyProof.ExcClass3
import PyProof.Rows.Own
import PyProof.NsDelKeeps
import KE.KIsAll
import PyProof.ExcAttrAll.ValueError
import PyProof.IsiH_list
import PyProof.Rows.FStr
import PyProof.FString4
import PyProof.StrLawsRepr
import PyProof.Rows.StrMeet
import PyProof.Draws
import KE.KDictOf
import KE.KEqDict
import PyProof.ExcInit
import PyProof.InstStoreFacts
import PyProof.Rows.SetFrom
import PyProof.ExcBaseAll.ValueError
import PySem.Challenge.RW_putback_k58_unroll_refused
set_option genSizeOf false
set_option Elab.async false
set_option linter.all false
set_option maxRecDepth 100000
set_option maxHeartbeats 4000000
theorem wZ:0<=PySem.sizeLine:=by decide
theorem dF:1<=PySem.sizeLine:=by decide
theorem gO:2<=PySem.sizeLine:=by decide
theorem w6:3<=PySem.sizeLine:=by decide
theorem ZC:4<=PySem.sizeLine:=by decide
theorem Og:6<=PySem.sizeLine:=by decide
namespace L2
open PySem PySem.Spec PyProof.Rows
noncomputable abbrev Key:=Sum Int Str
noncomputable def rN:Key->Value->Bool
 | .inl k,v=>Value.isInt k v
 | .inr x,v=>Value.isStrOf x v
noncomputable def ZD (w:World):Key->Int
 | .inl k=>hashInt k
 | .inr x=>hashStr w x
theorem mJ:∀{k:Key}{v:Value},rN k v=true->(∃i t,k=Sum.inl i/\v=Value.int i t)\/(∃x t,k=Sum.inr x/\v=Value.str x t)
 | .inl i,v,h=>by
   obtain⟨t,e⟩:=Value.isInt_shape (k:=i) (v:=v) h
   exact .inl ⟨i,t,rfl,e⟩
 | .inr x,v,h=>by
   obtain⟨t,e⟩:=Value.isStrOf_shape (x:=x) (v:=v) h
   exact .inr ⟨x,t,rfl,e⟩
theorem ZF (i:Int)(t:Tok):rN (.inl i) (.int i t)=true:=by simp[rN,Value.isInt]
theorem Oh (x:Str)(t:Tok):rN (.inr x) (.str x t)=true:=by simp[rN,Value.isStrOf]
theorem ZG (a b:Int):decide ((Sum.inl a:Key)=Sum.inl b)=(a == b):=by
 by_cases e:a=b
 . subst e;simp
 . have h:¬(Sum.inl a:Key)=Sum.inl b:=λq=>e (Sum.inl.inj q)
   rw[decide_eq_false h]
   exact(beq_eq_false_iff_ne.mpr e).symm
theorem ZJ (a b:Str):decide ((Sum.inr a:Key)=Sum.inr b)=decide (a=b):=by
 by_cases e:a=b
 . subst e;simp
 . have h:¬(Sum.inr a:Key)=Sum.inr b:=λq=>e (Sum.inr.inj q)
   rw[decide_eq_false h,decide_eq_false e]
theorem ZK (a:Int)(b:Str):decide ((Sum.inl a:Key)=Sum.inr b)=false:=decide_eq_false (λq=>nomatch q)
theorem ZL (a:Str)(b:Int):decide ((Sum.inr a:Key)=Sum.inl b)=false:=decide_eq_false (λq=>nomatch q)
noncomputable def cQ (prog:Program) (w:World):PySem.KeyKind prog w Key where
 is:=rN
 hash:=ZD w
 inj:=λv a b ha hb=>by
  rcases mJ ha with⟨i,t,rfl,rfl⟩|⟨x,t,rfl,rfl⟩
  . rcases mJ hb with⟨j,u,rfl,e⟩|⟨y,u,rfl,e⟩
    . injection e with e1 _;rw[e1]
    . exact nomatch e
  . rcases mJ hb with⟨j,u,rfl,e⟩|⟨y,u,rfl,e⟩
    . exact nomatch e
    . injection e with e1 _;rw[e1]
 byValue:=λk v h=>by
  rcases mJ h with⟨i,t,rfl,rfl⟩|⟨x,t,rfl,rfl⟩ <;> rfl
 pyHash:=λhv h=>by
  rcases mJ hv with⟨i,t,rfl,rfl⟩|⟨x,t,rfl,rfl⟩
  . exact wpAny_pyHash_int h
  . exact wpAny_pyHash_str h
 eqBool:=λhu hv h=>by
  rcases mJ hu with⟨i,t,rfl,rfl⟩|⟨x,t,rfl,rfl⟩
  . rcases mJ hv with⟨j,u,rfl,rfl⟩|⟨y,u,rfl,rfl⟩
    . rw[ZG] at h;exact wpAny_eqBool_int h
    . rw[ZK] at h;exact SeqAt.EqAt.int_str i t y u _ _ _ _ h
  . rcases mJ hv with⟨j,u,rfl,rfl⟩|⟨y,u,rfl,rfl⟩
    . rw[ZL] at h;exact SeqAt.EqAt.str_int x t j u _ _ _ _ h
    . rw[ZJ] at h;exact wpAny_eqBool_str h
 «strs»:=λk x t v h=>by
  rcases mJ h with⟨i,u,rfl,e⟩|⟨y,u,rfl,e⟩
  . exact nomatch e
  . injection e with e1 _
    subst e1
    cases v <;> rfl
theorem ZM (prog:Program)(w:World)(i:Int)(t:Tok):(cQ prog w).is (.inl i) (.int i t)=true:=ZF i t
theorem ZP (prog:Program)(w:World)(x:Str)(t:Tok):(cQ prog w).is (.inr x) (.str x t)=true:=Oh x t
inductive V where
 |non|bl (b:Bool)|int (i:Int)|str (x:Str)|jf (b:Array UInt8)|flt (b:UInt64)|ref (a:Addr)|ty (n:String)
 deriving DecidableEq
noncomputable def RelV:V->Value->Prop
 | .non,u=>u=Value.none
 | .bl b,u=>u=Value.bool b
 | .int i,u=>∃t,u=Value.int i t
 | .str x,u=>∃t,u=Value.str x t
 | .jf b,u=>∃t,u=Value.bytes b t
 | .flt b,u=>∃t,u=Value.float b t
 | .ref a,u=>u=Value.ref a
 | .ty n,u=>u=Value.type n
noncomputable abbrev Vals:List V->List Value->Prop:=Paired RelV
theorem Vals.length {xs:List V}{us:List Value}(r:Vals xs us):xs.length=us.length:=Paired.length r
theorem Vals.get:∀{xs:List V}{us:List Value}{i:Nat}{x:V},Vals xs us->xs[i]? =some x->∃u,us[i]? =some u/\RelV x u
 |_,_,_,_,.nil,e=>by simp at e
 |_,_,0,_,.cons r _,e=>by simp at e;subst e;exact⟨_,rfl,r⟩
 |_,_,i+1,x,.cons _ t,e=>by
  obtain⟨u,h1,h2⟩:=Vals.get (i:=i) (x:=x) t (by simpa using e)
  exact⟨u,by simpa using h1,h2⟩
theorem Vals.set {x:V}{u:Value}(r:RelV x u):∀{xs:List V}{us:List Value}(i:Nat),Vals xs us->Vals (xs.set i x) (us.set i u)
 |_,_,_,.nil=>.nil
 |_,_,0,.cons _ t=>.cons r t
 |_,_,i+1,.cons q t=>.cons q (Vals.set r i t)
theorem Vals.append:∀{xs ys:List V}{us ws:List Value},Vals xs us->Vals ys ws->Vals (xs++ys) (us++ws)
 |_,_,_,_,.nil,s=>s
 |_,_,_,_,.cons r t,s=>.cons r (Vals.append t s)
theorem Vals.take:∀{xs:List V}{us:List Value}(n:Nat),Vals xs us->Vals (xs.take n) (us.take n)
 |_,_,0,_=>.nil
 |_,_,_+1,.nil=>.nil
 |_,_,n+1,.cons r t=>.cons r (Vals.take n t)
theorem Vals.drop:∀{xs:List V}{us:List Value}(n:Nat),Vals xs us->Vals (xs.drop n) (us.drop n)
 |_,_,0,r=>r
 |_,_,_+1,.nil=>.nil
 |_,_,n+1,.cons _ t=>Vals.drop n t
theorem Vals.none_of:∀{xs:List V}{us:List Value}{i:Nat},Vals xs us->xs[i]? =none->us[i]? =none:=λ{xs us i} r e=>by
 have h1:=r.length
 have h2:xs.length<=i:=List.getElem?_eq_none_iff.mp e
 exact List.getElem?_eq_none_iff.mpr (by omega)
noncomputable def gA:Option V->Option Value->Prop
 |some v,some u=>RelV v u
 |none,none=>True
 |_,_=>False
noncomputable def KV {κ:Type}:List (κ × V)->List (κ × Value)->Prop:=Paired λ(p:κ × V) (q:κ × Value)=>p.1=q.1/\RelV p.2 q.2
noncomputable def kV:Key->V
 | .inl i=>.int i
 | .inr x=>.str x
inductive HO where
 |lst (xs:List V)
 |tup (xs:List V)
 |dK (kvs:List (Key × V))|dT (kvs:List (List Key × V))
 |set (S:Int->Bool) (n:Nat)
 |ins (C dx:Addr) (fs:List (Str × V))
 |own (x:Addr)
 |xd (fs:List (Str × V))
 |met (f x:Addr)
 |rng (lo hi:Int)
 |iB (o:Obj) (u:HO)
 |dI (ps:Array Value)
 |ext (φ:Heap->Prop)
noncomputable abbrev Hp:=Addr->Option HO
noncomputable def upd (H:Hp) (a:Addr) (o:HO):Hp:=λb=>if b=a then some o else H b
theorem aD {H:Hp}{a:Addr}{o:HO}:upd H a o a=some o:=by unfold upd;rw[if_pos rfl]
theorem au {H:Hp}{a b:Addr}{o:HO}(h:b≠a):upd H a o b=H b:=by unfold upd;rw[if_neg h]
theorem jV {H:Hp}{a b:Addr}{o u:HO}(h:H a=some o)(h':H b=some u)(d:o≠u):a≠b:=by
 intro e;subst e;rw[h] at h';exact d (Option.some.inj h')
theorem aR {H:Hp}{a b:Addr}{o:HO}(h:H a=some o)(h':H b=none):a≠b:=by
 intro e;subst e;rw[h] at h';cases h'
section
variable (P:Program)(w:World)
noncomputable def cM (H:Hp) (h:Heap) (a:Addr):HO->Prop
 | .lst xs=>xs.length<=sizeLine/\∃(its:List Value) (n:Nat),Vals xs its/\h.get? a=some { cls:=.type "list",data:=.seq its.toArray n }
 | .tup xs=>xs.length<=sizeLine/\∃its:List Value,Vals xs its/\IsTup h a its.toArray
 | .dK kvs=>kvs.length<=sizeLine/\(a == sysModules)=false/\∃vs,KV kvs vs/\h.DictOf (cQ P w) a vs
 | .dT kvs=>kvs.length<=sizeLine/\(a == sysModules)=false/\∃xs:List (List Key × Addr × Value),
    Paired (λ(p:List Key × V) (q:List Key × Addr × Value)=>p.1=q.1/\H q.2.1=some (.tup (p.1.map kV))/\RelV p.2 q.2.2) kvs xs/\
    ∃o es ep,h.get? a=some o/\o.ExactDict/\o.data=.dict es ep/\es.toList=xs.map (entryOfKey (tupleKind (cQ P w)))/\(xs.map (·.1)).Nodup
 | .set S n=>h.SetOf (intKind P w) a S n
 | .ins C dx fs=>H dx=some (.own a)/\fs.length<=1000/\dx≠a/\h.get? a=some (W.instObj C dx)/\
    ∃mA,h.Ns1 dx mA/\(∀f,gA (fs.lookup f) (mA f))/\PySem.Within mA (fs.map (·.1))
 | .own _=>∃o,h.get? a=some o
 | .xd fs=>∃mA,h.Ns1 a mA/\∀f,gA (fs.lookup f) (mA f)
 | .rng lo hi=>∃t u v,h.get? a=some { cls:=.type "range",data:=.fields #[.int lo t,.int hi u,.int 1 v] }
 | .iB o u=>h.get? a=some o/\cM H h a u
 | .dI ps=>h.get? a=some { cls:=.none,data:=.fields ps }
 | .met f x=>h.get? a=some (W.methodObj (.ref f) (.ref x))
 | .ext φ=>φ h/\(∃o,h.get? a=some o)/\∀h1 h2:Heap,φ h1->(∀o,h1.get? a=some o->h2.get? a=some o)->φ h2
noncomputable def cF (H:Hp) (h:Heap):Prop:=∀a o,H a=some o->cM P w H h a o
end
section
variable {P:Program}{w:World}{H H':Hp}{h h':Heap}{a:Addr}{o:HO}
theorem cM.lt (x:cM P w H h a o):a<h.objs.size:=by
 cases o with
 |lst xs=>obtain⟨_,_,_,_,e⟩:=x;exact Heap.lt_size e
 |tup xs=>obtain⟨_,_,_,p⟩:=x;exact p.lt
 |dK kvs=>obtain⟨_,_,_,_,o,_,_,e,_⟩:=x;exact Heap.lt_size e
 |dT kvs=>obtain⟨_,_,_,_,o,_,_,e,_⟩:=x;exact Heap.lt_size e
 |set S n=>obtain⟨o,_,_,_,e,_⟩:=x;exact Heap.lt_size e
 |ins C dx fs=>obtain⟨_,_,_,e,_⟩:=x;exact Heap.lt_size e
 |own y=>obtain⟨_,e⟩:=x;exact Heap.lt_size e
 |xd fs=>obtain⟨_,⟨_,_,_,e,_⟩,_⟩:=x;exact Heap.lt_size e
 |rng lo hi=>obtain⟨_,_,_,e⟩:=x;exact Heap.lt_size e
 |iB ob u=>obtain⟨e,_⟩:=x;exact Heap.lt_size e
 |dI ps=>exact Heap.lt_size (show h.get? a=some _ from x)
 |met f y=>exact Heap.lt_size (show h.get? a=some _ from x)
 |ext φ=>obtain⟨_,⟨_,e⟩,_⟩:=x;exact Heap.lt_size e
theorem Paired.Bh {α β:Type}{F G:α->β->Prop}:∀{l₁:List α}{l₂:List β},Paired F l₁ l₂->(∀a b,F a b->G a b)->Paired G l₁ l₂
 |_,_,.nil,_=>.nil
 |_,_,.cons r t,f=>.cons (f _ _ r) (Paired.Bh t f)
theorem cM.stay (x:cM P w H h a o)(k:∀b u,(b=a\/H b=some (.own a))->h.get? b=some u->h'.get? b=some u)
 (ho:∀b,H b=some (.own a)->H' b=some (.own a)) (ht:∀b xs,H b=some (.tup xs)->H' b=some (.tup xs)):cM P w H' h' a o:=by
 induction o with
 |lst xs=>obtain⟨z,its,n,r,e⟩:=x;exact⟨z,its,n,r,k _ _ (.inl rfl) e⟩
 |tup xs=>obtain⟨z,its,r,ob,e,c⟩:=x;exact⟨z,its,r,ob,k _ _ (.inl rfl) e,c⟩
 |dK kvs=>obtain⟨z,y,vs,r,ob,es,ep,e,c⟩:=x;exact⟨z,y,vs,r,ob,es,ep,k _ _ (.inl rfl) e,c⟩
 |dT kvs=>
  obtain⟨z,y,xs,r,ob,es,ep,e,c⟩:=x
  exact⟨z,y,xs,Paired.Bh r λp q z=>⟨z.1,ht _ _ z.2.1,z.2.2⟩,ob,es,ep,k _ _ (.inl rfl) e,c⟩
 |set S n=>obtain⟨ob,es,ep,t,e,c⟩:=x;exact⟨ob,es,ep,t,k _ _ (.inl rfl) e,c⟩
 |ins C dx fs=>
  obtain⟨d,z,ne,e,mA,⟨od,es,ep,e2,c⟩,r⟩:=x
  exact⟨ho _ d,z,ne,k _ _ (.inl rfl) e,mA,⟨od,es,ep,k _ _ (.inr d) e2,c⟩,r⟩
 |own y=>obtain⟨ob,e⟩:=x;exact⟨ob,k _ _ (.inl rfl) e⟩
 |xd fs=>obtain⟨mA,⟨od,es,ep,e,c⟩,r⟩:=x;exact⟨mA,⟨od,es,ep,k _ _ (.inl rfl) e,c⟩,r⟩
 |rng lo hi=>obtain⟨t,u,v,e⟩:=x;exact⟨t,u,v,k _ _ (.inl rfl) e⟩
 |iB ob u ih=>obtain⟨e,q⟩:=x;exact⟨k _ _ (.inl rfl) e,ih q⟩
 |dI ps=>
  have e:h.get? a=some { cls:=.none,data:=.fields ps }:=x
  show h'.get? a=some { cls:=.none,data:=.fields ps }
  exact k a _ (.inl rfl) e
 |met f y=>
  have e:h.get? a=some (W.methodObj (.ref f) (.ref y)):=x
  show h'.get? a=some (W.methodObj (.ref f) (.ref y))
  exact k a _ (.inl rfl) e
 |ext φ=>obtain⟨p,⟨o,e⟩,st⟩:=x;exact⟨st _ _ p λo q=>k _ _ (.inl rfl) q,⟨o,k _ _ (.inl rfl) e⟩,st⟩
theorem cF.lt (x:cF P w H h)(e:H a=some o):a<h.objs.size:=(x a o e).lt
theorem cF.fresh (x:cF P w H h)(e:h.objs.size<=a):H a=none:=by
 cases q:H a with
 |none=>rfl
 |some u=>exact absurd (Nat.lt_of_lt_of_le (x.lt q) e) (Nat.lt_irrefl _)
theorem cF.kept (x:cF P w H h)(k:∀b u,h.get? b=some u->h'.get? b=some u):cF P w H h':=λa o e=>
 (x a o e).stay (λb u _ q=>k b u q) (λ_ q=>q) λ_ _ q=>q
theorem cF.laid (x:cF P w H h)(k:∀b u,h.get? b=some u->h'.get? b=some u)(hp:h.objs.size<=a)(new:cM P w (upd H a o) h' a o):cF P w (upd H a o) h':=λb u e=>by
 have hn:=x.fresh hp
 by_cases hb:b=a
 . subst hb;rw[aD] at e;cases e;exact new
 . rw[au hb] at e
   exact(x b u e).stay (λc v _ q=>k c v q) (λc q=>by rw[au (aR q hn)];exact q) λc xs q=>by rw[au (aR q hn)];exact q
end
noncomputable def Rd (H:Hp) (a:Addr) (u:HO):Prop:=H a=some u\/∃o,H a=some (.iB o u)
theorem Rd.ok {P:Program}{w:World}{H:Hp}{h:Heap}{a:Addr}{u:HO}(r:Rd H a u)(x:cF P w H h):cM P w H h a u:=by
 rcases r with r|⟨o,r⟩
 . exact x a u r
 . obtain⟨_,q⟩:=x a _ r
   exact q
noncomputable def uH:Option HO->Prop
 |some (.lst _)=>True
 |some (.dK _)=>True
 |some (.dT _)=>True
 |some (.set _ _)=>True
 |some (.ins _ _ _)=>True
 |some (.ext _)=>True
 |_=>False
section
variable {P:Program}{w:World}{H:Hp}{h h':Heap}{x e:Addr}{o':HO}
theorem cF.write (ok:cF P w H h)(mu:uH (H x))(he:e=x\/H e=some (.own x))(k:∀b u,b≠e->h.get? b=some u->h'.get? b=some u)(heo:∃u,h'.get? e=some u)
 (new:cM P w (upd H x o') h' x o'):cF P w (upd H x o') h':=λb u q=>by
 have Oi:∀c y,H c=some (.own y)->c≠x:=λc y r z=>by subst z;rw[r] at mu;exact mu
 have ZQ:∀c xs,H c=some (.tup xs)->c≠x:=λc xs r z=>by subst z;rw[r] at mu;exact mu
 by_cases hb:b=x
 . subst hb;rw[aD] at q;cases q;exact new
 . rw[au hb] at q
   by_cases hbe:b=e
   . have q':H b=some (.own x):=by
      rcases he with z|z
      . exact absurd (hbe.trans z) hb
      . rw[hbe];exact z
     rw[q] at q';cases q'
     obtain⟨v,hv⟩:=heo
     exact⟨v,by rw[hbe];exact hv⟩
   . refine(ok b u q).stay (λc v hc r=>k c v ?_ r) (λc r=>by rw[au (Oi c b r)];exact r) λc xs r=>by rw[au (ZQ c xs r)];exact r
     rcases hc with rfl|hc
     . exact hbe
     . rintro rfl
       rcases he with z|z
       . exact Oi c b hc z
       . rw[hc] at z;cases z;exact hb rfl
end
structure Un (fs ex:List Addr) (H H':Hp) (h h':Heap):Prop where
 keep:∀b o,h.get? b=some o->H b=none->b ∉ fs->b ∉ ex->h'.get? b=some o
 slot:∀b o,h.get? b=some o->H b=none->b∈fs->b ∉ ex->∃sl,h'.get? b=some { o with slots:=sl }
 free:∀b o,h.get? b=some o->H b=none->b ∉ ex->H' b=none
 there:∀b o,h.get? b=some o->b ∉ ex->∃o',h'.get? b=some o'
 tups:∀b xs,H b=some (.tup xs)->H' b=some (.tup xs)
 jg:∀b o u,H b=some (.iB o u)->H' b=some (.iB o u)
 jh:∀b ps,H b=some (.dI ps)->∃more,H' b=some (.dI (ps++more))
section
variable {fs fs' ex ex':List Addr}{H H1 H2:Hp}{h h1 h2 h':Heap}{a x e:Addr}{o:HO}
theorem Un.any (u:Un fs ex H H1 h h1){b:Addr}{ob:Obj}(q:h.get? b=some ob)(n:H b=none)(hx:b ∉ ex):∃sl,h1.get? b=some { ob with slots:=sl }:=by
 by_cases hb:b∈fs
 . exact u.slot b ob q n hb hx
 . exact⟨ob.slots,u.keep b ob q n hb hx⟩
theorem Un.kept (k:∀b u,h.get? b=some u->h'.get? b=some u):Un fs ex H H h h':=
 ⟨λb ob q _ _ _=>k b ob q,λb ob q _ _ _=>⟨ob.slots,k b ob q⟩,λ_ _ _ n _=>n,λb ob q _=>⟨ob,k b ob q⟩,λ_ _ q=>q,λ_ _ _ q=>q,λ_ ps q=>⟨#[],by rw[q];simp⟩⟩
theorem Un.refl:Un fs ex H H h h:=Un.kept λ_ _ q=>q
theorem Un.laid (k:∀b u,h.get? b=some u->h'.get? b=some u)(hp:h.objs.size<=a)(hn:H a=none):Un fs ex H (upd H a o) h h' where
 keep:=λb u q _ _ _=>k b u q
 slot:=λb u q _ _ _=>⟨u.slots,k b u q⟩
 free:=λb u q n _=>by rw[au (Nat.ne_of_lt (Nat.lt_of_lt_of_le (Heap.lt_size q) hp))];exact n
 there:=λb u q _=>⟨u,k b u q⟩
 tups:=λb xs q=>by rw[au (aR q hn)];exact q
 jg:=λb u xs q=>by rw[au (aR q hn)];exact q
 jh:=λb ps q=>⟨#[],by rw[au (aR q hn),q];simp⟩
theorem Un.write (mu:uH (H x))(he:e=x\/H e=some (.own x))(k:∀b u,b≠e->h.get? b=some u->h'.get? b=some u)(heo:∃u,h'.get? e=some u):Un fs ex H (upd H x o) h h':=by
 have hx:∀b,H b=none->b≠x:=λb n z=>by subst z;rw[n] at mu;exact mu
 have hb:∀b,H b=none->b≠e:=λb n z=>by
  subst z
  rcases he with r|r
  . exact hx b n r
  . rw[n] at r;cases r
 have hm:∀b u,H b=some u->¬uH (some u)->b≠x:=λb u q nm z=>by subst z;rw[q] at mu;exact nm mu
 refine⟨λb u q n _ _=>k b u (hb b n) q,λb u q n _ _=>⟨u.slots,k b u (hb b n) q⟩,λb u q n _=>by rw[au (hx b n)];exact n,λb u q _=>?_,
  λb xs q=>by rw[au (hm b _ q λz=>z)];exact q,λb u xs q=>by rw[au (hm b _ q λz=>z)];exact q,λb ps q=>⟨#[],by rw[au (hm b _ q λz=>z),q];simp⟩⟩
 by_cases hbe:b=e
 . subst hbe;exact heo
 . exact⟨u,k b u hbe q⟩
end
noncomputable def xg (h:Heap) (H:Hp):List Addr:=(List.range h.objs.size).filter λa=>(H a).isSome
noncomputable def lE (h:Heap) (H:Hp):Heap:=W.hideAll h (xg h H)
theorem ZR (h:Heap)(H:Hp):(lE h H).objs.size=h.objs.size:=W.hideAll_size _ _
theorem ZS {h:Heap}{H:Hp}{b:Addr}{o:Obj}(e:h.get? b=some o)(n:H b=none):(lE h H).get? b=some o:=
 W.hideAll_get _ e λhm=>by
   have q:(H b).isSome=true:=(List.mem_filter.mp hm).2
   rw[n] at q;simp at q
theorem ZV {h:Heap}{H:Hp}{b:Addr}{o:Obj}(e:(lE h H).get? b=some o):h.get? b=some o/\H b=none:=by
 have e':h.get? b=some o:=W.of_hideAll (xg h H) e
 refine⟨e',?_⟩
 cases q:H b with
 |none=>rfl
 |some x=>
  have hm:b∈xg h H:=List.mem_filter.mpr ⟨List.mem_range.mpr (Heap.lt_size e'),by simp[q]⟩
  have z:(lE h H).get? b=none:=W.hideAll_none (xg h H) hm
  rw[z] at e;cases e
noncomputable def ZW (g h:Heap) (L:Addr):List (Addr × Obj):=(List.range h.objs.size).filterMap λa=>if a=L\/(g.get? a).isSome=true then none else(h.get? a).map λo=>(a,o)
noncomputable def rest (g h:Heap) (L d:Addr):List (Addr × Obj):=(ZW g h L).filter λp=>decide (p.1≠d)
structure Mod (K:W.Frag) (mg:Str->Option Value) (base:Heap):Prop where
 qz:K.In base
 glob:base.Ns mainGlobals mg
 blt:∃mb,base.Ns builtinsNs mb/\∀x:Str,x≠"__name__"->mb x=bootBuiltins x
 nolimit:base.NoLimit
structure Cx where
 prog:Program
 w:World
 K:W.Frag
 mg:Str->Option Value
 base:Heap
 A:Around
 N:List Str
 s₀:Shared
 H₀:Hp
 env:Env
 outer:List Env
 stack:List Env
 ex:List Addr
 fn:Str->Bool
 calm:Bool
 pn:List (Addr × Obj)
 xe:Value->Shared->Prop
noncomputable def frs (l:List Env):List Addr:=l.filterMap (·.frame)
noncomputable abbrev Cx.fs (X:Cx):List Addr:=frs X.outer
noncomputable def Bj (sc:Scope) (x:Str):Prop:=sc.names.lookup x=some .local\/sc.names.lookup x=some .cell\/sc.names.lookup x=some .free
noncomputable def Loc (sc:Scope) (x:Str):Prop:=sc.names.lookup x=some .local\/sc.names.lookup x=some .cell
noncomputable def Look (env:Env) (h:Heap) (m:Str->Option Value) (x:Str) (u:Value):Prop:=
 (env.kindOf x=some .local/\m x=some u)\/((env.kindOf x=some .cell\/env.kindOf x=some .free)/\∃c,env.cells.lookup x=some c/\h.IsCell c (some u))
structure Cx.Ok (X:Cx):Prop where
 mod:Mod X.K X.mg X.base
 kind:X.env.scope.kind=.function
 glob:X.env.globals=mainGlobals
 blt:X.env.builtins=builtinsNs
 above:X.s₀.heap.objs.size<=X.env.locals
 inj:∀x y c,X.env.cells.lookup x=some c->X.env.cells.lookup y=some c->x=y
 has:∀x,(X.env.kindOf x=some .cell\/X.env.kindOf x=some .free)->∃c,X.env.cells.lookup x=some c
 cab:∀x c,X.fn x=true->X.env.cells.lookup x=some c->X.s₀.heap.objs.size<=c
 hd:X.calm=true->X.A.handled=none
 frames:X.A.frames=some X.stack
 stk:X.stack=X.outer\/(X.stack=X.env::X.outer/\X.env.frame=some X.env.locals)
 Bk:∀b∈X.ex,b≠X.env.locals/\∀x c,X.env.cells.lookup x=some c->c≠b
 bs:∀b o,X.base.get? b=some o->X.s₀.heap.get? b=some o/\X.H₀ b=none
 jW:X.base.objs.size<=X.s₀.heap.objs.size
 rO:∀b o,X.base.get? b=some o->b ∉ X.ex
 uI:∀b∈X.ex,b ∉ X.fs
 ju:X.s₀.heap.FunFrames X.base X.outer
 ou:∀b∈X.fs,X.H₀ b=none
structure Inv (X:Cx) (pins:List (Addr × Obj)) (σ:List (Option V)) (H:Hp) (s:Shared):Prop where
 ok:X.Ok
 os:s.os=X.s₀.os
 bare:AllBare s.gens
 base:Un X.fs X.ex X.H₀ H X.s₀.heap s.heap
 loc:∃m,s.heap.Ns X.env.locals m/\∀(i:Nat) (x:Str) (v:V),X.N[i]? =some x->σ[i]? =some (some v)->Bj X.env.scope x->∃u,RelV v u/\Look X.env s.heap m x u
 cell:∀x c,X.env.cells.lookup x=some c->∃v,s.heap.IsCell c v
 free:H X.env.locals=none
 iC:∀x c,X.env.cells.lookup x=some c->H c=none
 pin:∀p∈X.pn++pins,s.heap.get? p.1=some p.2/\H p.1=none/\p.1≠X.env.locals/\p.1 ∉ X.fs/\∀v,p.2.data≠ .cell v
 hok:cF X.prog X.w H s.heap
 len:σ.length=X.N.length
section
variable {X:Cx}{pins:List (Addr × Obj)}{σ:List (Option V)}{H H':Hp}{s:Shared}{h':Heap}
theorem Cx.Ok.ZX (ok:X.Ok){b:Addr}{o:Obj}(e:X.base.get? b=some o):b ∉ X.fs:=λhb=>by
 have:=(ok.ju.mem hb).1
 rw[e] at this;cases this
theorem Inv.bs (I:Inv X pins σ H s):∀b o,X.base.get? b=some o->s.heap.get? b=some o/\H b=none:=λb o e=>
 ⟨I.base.keep b o (I.ok.bs b o e).1 (I.ok.bs b o e).2 (I.ok.ZX e) (I.ok.rO b o e),I.base.free b o (I.ok.bs b o e).1 (I.ok.bs b o e).2 (I.ok.rO b o e)⟩
theorem Inv.bk (I:Inv X pins σ H s):∀b o,X.base.get? b=some o->s.heap.get? b=some o:=λb o e=>(I.bs b o e).1
theorem Inv.mod (I:Inv X pins σ H s):Mod X.K X.mg X.base:=I.ok.mod
theorem Inv.cN (I:Inv X pins σ H s):X.K.In s.heap:=I.ok.mod.qz.keeps I.bk
theorem Inv.nolimit (I:Inv X pins σ H s):s.heap.NoLimit:=I.ok.mod.nolimit.keeps I.bk
theorem Inv.lt (I:Inv X pins σ H s):X.env.locals<s.heap.objs.size:=let⟨_,hn,_⟩:=I.loc;hn.lt
theorem Inv.sz (I:Inv X pins σ H s):X.s₀.heap.objs.size<=s.heap.objs.size:=Nat.le_trans I.ok.above (Nat.le_of_lt I.lt)
theorem Inv.rP (I:Inv X pins σ H s){a:Addr}(h:s.heap.objs.size<=a):a ∉ X.fs:=λhb=>by
 obtain⟨_,o,ho,_⟩:=I.ok.ju.mem hb
 exact absurd (Nat.lt_of_lt_of_le (Heap.lt_size ho) (Nat.le_trans I.sz h)) (Nat.lt_irrefl _)
theorem Inv.jX (I:Inv X pins σ H s):∀x c,X.env.cells.lookup x=some c->c≠X.env.locals:=λx c e z=>by
 obtain⟨v,o,ho,hd⟩:=I.cell x c e
 obtain⟨m,⟨o',es,ep,ho',hd',_⟩,_⟩:=I.loc
 rw[z,ho'] at ho;cases ho;rw[hd'] at hd;cases hd
theorem Inv.ju (I:Inv X pins σ H s):s.heap.FunFrames X.base X.outer:=by
 have all:∀(l:List Env),(∀b∈frs l,b∈X.fs)->X.s₀.heap.FunFrames X.base l->s.heap.FunFrames X.base l:=by
  intro l
  induction l with
  |nil=>intro _ _;trivial
  |cons env r ih=>
   intro hs hl
   obtain⟨hk,⟨L,o,hf,hn,ho,hd⟩,hr⟩:=hl
   have hL:L∈X.fs:=hs L (by unfold frs;rw[List.filterMap_cons,hf];exact List.mem_cons_self)
   obtain⟨sl,e⟩:=I.base.slot L o ho (I.ok.ou L hL) hL λz=>I.ok.uI L z hL
   exact⟨hk,⟨L,_,hf,hn,e,hd⟩,ih (λb hb=>hs b (by unfold frs;rw[List.filterMap_cons,hf];exact List.mem_cons_of_mem _ hb)) hr⟩
 exact all X.outer (λ_ hb=>hb) I.ok.ju
theorem Inv.stack (I:Inv X pins σ H s):s.heap.FunFrames X.base X.stack:=by
 rcases I.ok.stk with e|⟨e,hf⟩
 . rw[e];exact I.ju
 . rw[e]
   obtain⟨m,hn,_⟩:=I.loc
   refine .cons (by rw[I.ok.kind];decide) hf hn ?_ I.ju
   exact Heap.get?_none_of_le (Nat.le_trans I.ok.jW I.ok.above)
theorem Inv.rQ (I:Inv X pins σ H s):∀b∈frs X.stack,b∈X.env.locals::X.fs:=λb hb=>by
 rcases I.ok.stk with e|⟨e,hf⟩
 . rw[e] at hb;exact List.mem_cons_of_mem _ hb
 . rw[e] at hb
   unfold frs at hb
   rw[List.filterMap_cons,hf] at hb
   exact hb
theorem Inv.uJ (I:Inv X pins σ H s):∀b∈frs X.stack,H b=none:=λb hb=>by
 rcases List.mem_cons.mp (I.rQ b hb) with e|hb
 . rw[e];exact I.free
 . obtain⟨_,o,ho,_⟩:=I.ok.ju.mem hb
   exact I.base.free b o ho (I.ok.ou b hb) λz=>I.ok.uI b z hb
theorem Inv.step {g':Array GenState}{t':Nat}{d':Drawn}{ch:List Addr}(I:Inv X pins σ H s)
 (hch:∀b∈ch,(b∈X.ex\/X.s₀.heap.objs.size<=b)/\b≠X.env.locals/\(∀x c,X.env.cells.lookup x=some c->c≠b)/\∀p∈X.pn++pins,p.1≠b)
 (keep:∀b o,b≠X.env.locals->b ∉ X.fs->b ∉ ch->s.heap.get? b=some o->H b=none->h'.get? b=some o)
 (slot:∀b o,b≠X.env.locals->b∈X.fs->b ∉ ch->s.heap.get? b=some o->H b=none->∃sl,h'.get? b=some { o with slots:=sl }) (free:∀b o,b ∉ ch->s.heap.get? b=some o->H b=none->H' b=none)
 (there:∀b o,b ∉ ch->s.heap.get? b=some o->∃o',h'.get? b=some o')
 (tups:∀b xs,H b=some (.tup xs)->H' b=some (.tup xs)) (jg:∀b o u,H b=some (.iB o u)->H' b=some (.iB o u)) (jh:∀b ps,H b=some (.dI ps)->∃more,H' b=some (.dI (ps++more)))
 (ns:∀m,s.heap.Ns X.env.locals m->h'.Ns X.env.locals m) (hok:cF X.prog X.w H' h') (hg:AllBare g'):
 Inv X pins σ H' { s with heap:=h',gens:=g',drawn:=d',toks:=t' }:=by
 have Oj:∀b o,X.s₀.heap.get? b=some o->b≠X.env.locals:=λb o e=>Nat.ne_of_lt (Nat.lt_of_lt_of_le (Heap.lt_size e) I.ok.above)
 have xr:∀b o,X.s₀.heap.get? b=some o->b ∉ X.ex->b ∉ ch:=λb o e hx hb=>by
  rcases(hch b hb).1 with z|z
  . exact hx z
  . exact absurd (Nat.lt_of_lt_of_le (Heap.lt_size e) z) (Nat.lt_irrefl _)
 have cellK:∀x c,X.env.cells.lookup x=some c->∀v,s.heap.IsCell c v->h'.IsCell c v:=λx c e v ⟨o,ho,hd⟩=>by
  have uK:c ∉ ch:=λz=>(hch c z).2.2.1 x c e rfl
  by_cases hc:c∈X.fs
  . obtain⟨sl,q⟩:=slot c o (I.jX x c e) hc uK ho (I.iC x c e)
    exact⟨_,q,hd⟩
  . exact⟨o,keep c o (I.jX x c e) hc uK ho (I.iC x c e),hd⟩
 refine⟨I.ok,I.os,hg,⟨λb o e n hb hx=>?_,λb o e n hb hx=>?_,λb o e n hx=>?_,λb o e hx=>?_,λb xs e=>tups b xs (I.base.tups b xs e),λb o xs e=>jg b o xs (I.base.jg b o xs e),λb ps e=>?_⟩,?_,λx c e=>?_,?_,λx c e=>?_,λp hp=>?_,hok,I.len⟩
 . exact keep b o (Oj b o e) hb (xr b o e hx) (I.base.keep b o e n hb hx) (I.base.free b o e n hx)
 . obtain⟨sl,e1⟩:=I.base.slot b o e n hb hx
   obtain⟨sl',e2⟩:=slot b _ (Oj b o e) hb (xr b o e hx) e1 (I.base.free b o e n hx)
   exact⟨sl',e2⟩
 . obtain⟨o',e1⟩:=I.base.there b o e hx
   exact free b o' (xr b o e hx) e1 (I.base.free b o e n hx)
 . obtain⟨o',e1⟩:=I.base.there b o e hx
   exact there b o' (xr b o e hx) e1
 . obtain⟨m1,e1⟩:=I.base.jh b ps e
   obtain⟨m2,e2⟩:=jh b _ e1
   exact⟨m1++m2,by rw[e2,Array.append_assoc]⟩
 . obtain⟨m,hn,hl⟩:=I.loc
   refine⟨m,ns m hn,λi x v e1 e2 e3=>?_⟩
   obtain⟨u,r,l⟩:=hl i x v e1 e2 e3
   refine⟨u,r,?_⟩
   rcases l with l|⟨k,c,e,z⟩
   . exact .inl l
   . exact .inr ⟨k,c,e,cellK x c e _ z⟩
 . obtain⟨v,z⟩:=I.cell x c e
   exact⟨v,cellK x c e v z⟩
 . obtain⟨m,⟨o,_,_,ho,_⟩,_⟩:=I.loc
   exact free _ o (λz=>(hch _ z).2.1 rfl) ho I.free
 . obtain⟨v,o,ho,hd⟩:=I.cell x c e
   exact free c o (λz=>(hch c z).2.2.1 x c e rfl) ho (I.iC x c e)
 . obtain⟨e,n,ne,nf,d⟩:=I.pin p hp
   have uK:p.1 ∉ ch:=λz=>(hch p.1 z).2.2.2 p hp rfl
   exact⟨keep p.1 p.2 ne nf uK e n,free p.1 p.2 uK e n,ne,nf,d⟩
theorem Inv.un {t':Nat}(I:Inv X pins σ H s)(u:Un X.fs [] H H' s.heap h')(hok:cF X.prog X.w H' h'):Inv X pins σ H' { s with heap:=h',toks:=t' }:=by
 obtain⟨m,⟨o,es,ep,ho,r⟩,_⟩:=id I.loc
 obtain⟨sl,hL⟩:=u.any ho I.free (by simp)
 exact I.step (g':=s.gens) (d':=s.drawn) (ch:=[]) (λ_ z=>nomatch z) (λb o _ hb _ e n=>u.keep b o e n hb (by simp)) (λb o _ hb _ e n=>u.slot b o e n hb (by simp)) (λb o _ e n=>u.free b o e n (by simp)) (λb o _ e=>u.there b o e (by simp)) u.tups u.jg u.jh (λm' hm=>by
  obtain⟨o',es',ep',ho',r'⟩:=hm
  rw[ho] at ho';cases ho'
  exact⟨_,es',ep',hL,r'⟩) hok I.bare
theorem Inv.call {g':Array GenState}{t':Nat}{d':Drawn}{ch:List Addr}(I:Inv X pins σ H s)(u:Un (frs X.stack) ch H H' s.heap h')(hok:cF X.prog X.w H' h')(hg:AllBare g')
 (hch:∀b∈ch,(b∈X.ex\/X.s₀.heap.objs.size<=b)/\b≠X.env.locals/\(∀x c,X.env.cells.lookup x=some c->c≠b)/\∀p∈X.pn++pins,p.1≠b):
 Inv X pins σ H' { s with heap:=h',gens:=g',drawn:=d',toks:=t' }:=by
 obtain⟨m,⟨o,es,ep,ho,r⟩,_⟩:=id I.loc
 obtain⟨sl,hL⟩:=u.any ho I.free λz=>(hch _ z).2.1 rfl
 exact I.step (ch:=ch) hch (λb o hL hb hc e n=>u.keep b o e n (λz=>(List.mem_cons.mp (I.rQ b z)).elim hL hb) hc) (λb o _ _ hc e n=>u.any e n hc) (λb o hc e n=>u.free b o e n hc) (λb o hc e=>u.there b o e hc) u.tups u.jg u.jh (λm' hm=>by
  obtain⟨o',es',ep',ho',r'⟩:=hm
  rw[ho] at ho';cases ho'
  exact⟨_,es',ep',hL,r'⟩) hok hg
theorem Inv.turned {t':Nat}{it:Addr}(I:Inv X pins σ H s)(k:∀b o,b≠it->s.heap.get? b=some o->h'.get? b=some o)(hn:H it=none)(hL:it≠X.env.locals)
 (h1:it∈X.ex\/X.s₀.heap.objs.size<=it) (h2:∀x c,X.env.cells.lookup x=some c->c≠it) (h3:∀p∈X.pn++pins,p.1≠it):Inv X pins σ H { s with heap:=h',toks:=t' }:=by
 have Ol:∀b u,H b=some u->b≠it:=λb u e z=>by rw[z,hn] at e;cases e
 refine I.step (g':=s.gens) (d':=s.drawn) (ch:=[it]) (λb hb=>?_) (λb o _ _ hc e _=>k b o (λz=>hc (by simp[z])) e) (λb o _ _ hc e _=>⟨o.slots,k b o (λz=>hc (by simp[z])) e⟩) (λ_ _ _ _ n=>n)
  (λb o hc e=>⟨o,k b o (λz=>hc (by simp[z])) e⟩) (λ_ _ e=>e) (λ_ _ _ e=>e) (λb ps e=>⟨#[],by rw[e];simp⟩) (λm hm=>?_) (λb u e=>?_) I.bare
 . have e:b=it:=by simpa using hb
   subst e
   exact⟨h1,hL,h2,h3⟩
 . obtain⟨o,es,ep,ho,r⟩:=hm
   exact⟨o,es,ep,k _ o (Ne.symm hL) ho,r⟩
 . refine(I.hok b u e).stay (λc v hc q=>k c v ?_ q) (λ_ q=>q) λ_ _ q=>q
   rcases hc with z|z
   . rw[z];exact Ol b u e
   . exact Ol c _ z
theorem Inv.tok (I:Inv X pins σ H s)(t:Nat):Inv X pins σ H { s with toks:=t }:=I.un (h':=s.heap) (t':=t) Un.refl I.hok
theorem Inv.kept {t':Nat}(I:Inv X pins σ H s)(k:∀b u,s.heap.get? b=some u->h'.get? b=some u):Inv X pins σ H { s with heap:=h',toks:=t' }:=I.un (Un.kept k) (I.hok.kept k)
theorem Inv.laid {a:Addr}{o:HO}{t':Nat}(I:Inv X pins σ H s)(k:∀b u,s.heap.get? b=some u->h'.get? b=some u)(hp:s.heap.objs.size<=a)(new:cM X.prog X.w (upd H a o) h' a o):
 Inv X pins σ (upd H a o) { s with heap:=h',toks:=t' }:=I.un (Un.laid k hp (I.hok.fresh hp)) (I.hok.laid k hp new)
theorem Inv.write {x e:Addr}{o:HO}{t':Nat}(I:Inv X pins σ H s)(mu:uH (H x))(he:e=x\/H e=some (.own x))(k:∀b u,b≠e->s.heap.get? b=some u->h'.get? b=some u)(heo:∃u,h'.get? e=some u)
 (new:cM X.prog X.w (upd H x o) h' x o):Inv X pins σ (upd H x o) { s with heap:=h',toks:=t' }:=I.un (Un.write mu he k heo) (I.hok.write mu he k heo new)
theorem Inv.weak {σ':List (Option V)}(I:Inv X pins σ H s)(hl:σ'.length=σ.length)(w:∀(i:Nat) v,σ'[i]? =some (some v)->σ[i]? =some (some v)):Inv X pins σ' H s:=
 ⟨I.ok,I.os,I.bare,I.base,let⟨m,hn,hl'⟩:=I.loc;⟨m,hn,λi x v e1 e2 e3=>hl' i x v e1 (w i v e2) e3⟩,I.cell,I.free,I.iC,I.pin,I.hok,hl.trans I.len⟩
theorem Inv.qC {Om:List (Addr × Obj)}(I:Inv X pins σ H s)(h:∀p∈Om,s.heap.get? p.1=some p.2/\H p.1=none/\p.1≠X.env.locals/\p.1 ∉ X.fs/\∀v,p.2.data≠ .cell v):Inv X Om σ H s:=
 ⟨I.ok,I.os,I.bare,I.base,I.loc,I.cell,I.free,I.iC,λp hp=>(List.mem_append.mp hp).elim (λz=>I.pin p (List.mem_append_left _ z)) (h p),I.hok,I.len⟩
theorem Bl {N:List Str}(hN:N.Nodup){i j:Nat}{x:Str}(a:N[i]? =some x)(b:N[j]? =some x):i=j:=by
 obtain⟨h1,e1⟩:=List.getElem?_eq_some_iff.mp a
 obtain⟨h2,e2⟩:=List.getElem?_eq_some_iff.mp b
 exact(List.getElem_inj hN).mp (e1.trans e2.symm)
theorem Z0 {M:Model}{A:Around}{E:Value->Shared->Prop}{i:Nat}{x:Str}{v:V}{u:Value}{Q:Unit->Shared->Prop}(I:Inv X pins σ H s)(hN:X.N.Nodup)(hi:X.N[i]? =some x)(hx:Loc X.env.scope x)(r:RelV v u)
 (h:∀s',Inv X pins (σ.set i (some v)) H s'->(∃a,Heap.SameBut a s.heap s'.heap/\(a=X.env.locals\/X.env.cells.lookup x=some a))->Q () s') (hf:X.fn x=true\/X.env.scope.names.lookup x=some .local:=by first|exact .inl rfl|exact .inr rfl|assumption):wpAny M A (storeName X.env x u) Q E s:=by
 obtain⟨m,hn,hl⟩:=id I.loc
 have hcls:(X.env.scope.kind == .class || (X.env.scope.kind == .module && X.env.locals != X.env.globals))=false:=by rw[I.ok.kind];rfl
 have xu:i<σ.length:=by rw[I.len];exact(List.getElem?_eq_some_iff.mp hi).1
 have jX:=I.jX
 have tracked:∀{a:Addr} {h':Heap},(∃o,s.heap.get? a=some o/\H a=none)->Heap.SameBut a s.heap h'->cF X.prog X.w H h':=λ{a h'} ha hs b ob e=>by
  obtain⟨_,_,hfree⟩:=ha
  refine(I.hok b ob e).stay (λc w' hc q=>(hs.2 c ?_).trans q) (λ_ q=>q) λ_ _ q=>q
  rintro rfl
  rcases hc with rfl|hc
  . rw[hfree] at e;cases e
  . rw[hfree] at hc;cases hc
 rcases hx with hk|hk
 . refine wpAny_storeName_local hk hn (λh' hn' hs=>?_) hcls
   obtain⟨oL,_,_,hoL,_⟩:=id hn
   refine h _ ⟨I.ok,I.os,I.bare,⟨λb o e n hb hx=>?_,λb o e n hb hx=>?_,I.base.free,λb o e hx=>?_,I.base.tups,I.base.jg,I.base.jh⟩,⟨_,hn',λj y v' e1 e2 e3=>?_⟩,λy c e=>?_,I.free,I.iC,λp hp=>?_,tracked ⟨oL,hoL,I.free⟩ hs,by simpa using I.len⟩ ⟨_,hs,.inl rfl⟩
   . exact(hs.2 b (Nat.ne_of_lt (Nat.lt_of_lt_of_le (Heap.lt_size e) I.ok.above))).trans (I.base.keep b o e n hb hx)
   . obtain⟨sl,e1⟩:=I.base.slot b o e n hb hx
     exact⟨sl,(hs.2 b (Nat.ne_of_lt (Nat.lt_of_lt_of_le (Heap.lt_size e) I.ok.above))).trans e1⟩
   . obtain⟨o',e1⟩:=I.base.there b o e hx
     exact⟨o',(hs.2 b (Nat.ne_of_lt (Nat.lt_of_lt_of_le (Heap.lt_size e) I.ok.above))).trans e1⟩
   . by_cases hj:j=i
     . subst hj
       rw[hi] at e1;cases e1
       rw[List.getElem?_set_self xu] at e2
       cases e2
       exact⟨u,r,.inl ⟨hk,by simp⟩⟩
     . rw[List.getElem?_set_ne (Ne.symm hj)] at e2
       obtain⟨u',r',q⟩:=hl j y v' e1 e2 e3
       refine⟨u',r',?_⟩
       rcases q with⟨k,e⟩|⟨k,c,e,z⟩
       . refine .inl ⟨k,?_⟩
         have:y≠x:=λe=>hj (Bl hN e1 (e ▸ hi))
         simp[this,e]
       . exact .inr ⟨k,c,e,z.sameBut hs (jX y c e)⟩
   . obtain⟨w',z⟩:=I.cell y c e
     exact⟨w',z.sameBut hs (jX y c e)⟩
   . obtain⟨e,n,ne,nf,d⟩:=I.pin p hp
     exact⟨(hs.2 p.1 ne).trans e,n,ne,nf,d⟩
 . have hfn:X.fn x=true:=by
    rcases hf with z|z
    . exact z
    . rw[z] at hk;cases hk
   obtain⟨c,hc⟩:=I.ok.has x (.inl hk)
   obtain⟨w',z⟩:=I.cell x c hc
   refine wpAny_storeName_cell I.ok.kind hk hc z (λh' hc' hs=>?_)
   obtain⟨oc,hoc,Z1⟩:=id z
   refine h { s with heap:=h' } ⟨I.ok,I.os,I.bare,⟨λb o e n hb hx=>?_,λb o e n hb hx=>?_,I.base.free,λb o e hx=>?_,I.base.tups,I.base.jg,I.base.jh⟩,⟨m,hn.sameBut hs (Ne.symm (jX x c hc)),λj y v' e1 e2 e3=>?_⟩,λy c' e=>?_,I.free,I.iC,λp hp=>?_,tracked ⟨oc,hoc,I.iC x c hc⟩ hs,by simpa using I.len⟩ ⟨c,hs,.inr hc⟩
   . exact(hs.2 b (Nat.ne_of_lt (Nat.lt_of_lt_of_le (Heap.lt_size e) (I.ok.cab x c hfn hc)))).trans (I.base.keep b o e n hb hx)
   . obtain⟨sl,e1⟩:=I.base.slot b o e n hb hx
     exact⟨sl,(hs.2 b (Nat.ne_of_lt (Nat.lt_of_lt_of_le (Heap.lt_size e) (I.ok.cab x c hfn hc)))).trans e1⟩
   . obtain⟨o',e1⟩:=I.base.there b o e hx
     exact⟨o',(hs.2 b (Nat.ne_of_lt (Nat.lt_of_lt_of_le (Heap.lt_size e) (I.ok.cab x c hfn hc)))).trans e1⟩
   . by_cases hj:j=i
     . subst hj
       rw[hi] at e1;cases e1
       rw[List.getElem?_set_self xu] at e2
       cases e2
       exact⟨u,r,.inr ⟨.inl hk,c,hc,hc'⟩⟩
     . rw[List.getElem?_set_ne (Ne.symm hj)] at e2
       obtain⟨u',r',q⟩:=hl j y v' e1 e2 e3
       refine⟨u',r',?_⟩
       rcases q with q|⟨k,c',e,z'⟩
       . exact .inl q
       . refine .inr ⟨k,c',e,z'.sameBut hs ?_⟩
         rintro rfl
         exact hj (Bl hN e1 (I.ok.inj _ _ _ e hc ▸ hi))
   . by_cases hcc:c'=c
     . subst hcc;exact⟨_,hc'⟩
     . obtain⟨w2,z2⟩:=I.cell y c' e
       exact⟨w2,z2.sameBut hs hcc⟩
   . obtain⟨e,n,ne,nf,d⟩:=I.pin p hp
     refine⟨(hs.2 p.1 ?_).trans e,n,ne,nf,d⟩
     intro q
     rw[q,hoc] at e
     have q':oc=p.2:=Option.some.inj e
     exact d w' (by rw[<-q'];exact Z1)
theorem uL {M:Model}{A:Around}{E:Value->Shared->Prop}{i:Nat}{x:Str}{v:V}{u:Value}{Q:Unit->Shared->Prop}(I:Inv X pins σ H s)(hN:X.N.Nodup)(hi:X.N[i]? =some x)(hx:Loc X.env.scope x)(r:RelV v u)
 (h:∀s',Inv X pins (σ.set i (some v)) H s'->Q () s') (hf:X.fn x=true\/X.env.scope.names.lookup x=some .local:=by first|exact .inl rfl|exact .inr rfl|assumption):wpAny M A (storeName X.env x u) Q E s:=
 Z0 I hN hi hx r (λs' I' _=>h s' I') hf
theorem Inv.call' {s':Shared}{ch:List Addr}(I:Inv X pins σ H s)(ho:s'.os=s.os)(u:Un (frs X.stack) ch H H' s.heap s'.heap)(hok:cF X.prog X.w H' s'.heap)(hg:AllBare s'.gens)
 (hch:∀b∈ch,(b∈X.ex\/X.s₀.heap.objs.size<=b)/\b≠X.env.locals/\(∀x c,X.env.cells.lookup x=some c->c≠b)/\∀p∈X.pn++pins,p.1≠b):Inv X pins σ H' s':=by
 obtain⟨h',g',d',t',o'⟩:=s'
 have e:o'=s.os:=ho
 subst e
 exact I.call (g':=g') (t':=t') (d':=d') u hok hg hch
end
noncomputable abbrev XK:=Value->Option Addr->Hp->Prop
noncomputable abbrev St:=List (Option V)
noncomputable abbrev VK:=V->Hp->Prop
noncomputable abbrev TE:=St->Hp->VK->Prop
noncomputable abbrev TT:=St->Hp->(Bool->Hp->Prop)->Prop
noncomputable abbrev TA:=St->Hp->(List V->Hp->Prop)->Prop
structure Ends where
 nx:St->Hp->Prop
 rt:VK
 bk:St->Hp->Prop:=λ_ _=>False
 ct:St->Hp->Prop:=λ_ _=>False
noncomputable abbrev TS:=Ends->St->Hp->Prop
noncomputable def EP (X:Cx) (pins:List (Addr × Obj)) (σ:St) (Q:VK) (u:Value) (s':Shared):Prop:=∃v H',Inv X pins σ H' s'/\RelV v u/\Q v H'
noncomputable def TP (X:Cx) (pins:List (Addr × Obj)) (σ:St) (Q:Bool->Hp->Prop) (b:Bool) (s':Shared):Prop:=∃H',Inv X pins σ H' s'/\Q b H'
noncomputable def AP (X:Cx) (pins:List (Addr × Obj)) (σ:St) (Q:List V->Hp->Prop) (us:List Value) (s':Shared):Prop:=∃vs H',Inv X pins σ H' s'/\Vals vs us/\Q vs H'
noncomputable def SP (X:Cx) (pins:List (Addr × Obj)) (D:Ends) (f:Flow) (s':Shared):Prop:=
 match f with
 | .next=>∃σ' H',Inv X pins σ' H' s'/\D.nx σ' H'
 | .brk=>∃σ' H',Inv X pins σ' H' s'/\D.bk σ' H'
 | .cont=>∃σ' H',Inv X pins σ' H' s'/\D.ct σ' H'
 | .ret u=>∃v σ' H',Inv X pins σ' H' s'/\RelV v u/\D.rt v H'
noncomputable def PE (X:Cx) (e:Expr) (t:TE):Prop:=
 ∀(pins:List (Addr × Obj)) (s:Shared) (σ:St) (H:Hp) (Q:VK),Inv X pins σ H s->t σ H Q->wpAny (model X.prog X.w) X.A (eval e X.env) (EP X pins σ Q) X.xe s
noncomputable def PT (X:Cx) (e:Expr) (t:TT):Prop:=
 ∀(pins:List (Addr × Obj)) (s:Shared) (σ:St) (H:Hp) (Q:Bool->Hp->Prop),Inv X pins σ H s->t σ H Q->wpAny (model X.prog X.w) X.A (isTrue e X.env (eval e X.env)) (TP X pins σ Q) X.xe s
noncomputable def PW (X:Cx) (e:Expr) (t:TT):Prop:=
 ∀(whole:Sem Value) (pins:List (Addr × Obj)) (s:Shared) (σ:St) (H:Hp) (Q:Bool->Hp->Prop),Inv X pins σ H s->t σ H Q->wpAny (model X.prog X.w) X.A (isTrue e X.env whole) (TP X pins σ Q) X.xe s
theorem PW.pt {X:Cx}{e:Expr}{t:TT}(h:PW X e t):PT X e t:=h _
noncomputable def PA (X:Cx) (es:List Expr) (t:TA):Prop:=
 ∀(pos:Pos) (pins:List (Addr × Obj)) (s:Shared) (σ:St) (H:Hp) (Q:List V->Hp->Prop),Inv X pins σ H s->t σ H Q->wpAny (model X.prog X.w) X.A (spliced (backTo pos (starEach es X.env))) (AP X pins σ Q) X.xe s
noncomputable def PS (X:Cx) (st:Stmt) (t:TS):Prop:=
 ∀(pins:List (Addr × Obj)) (s:Shared) (σ:St) (H:Hp) (D:Ends),Inv X pins σ H s->t D σ H->wpAny (model X.prog X.w) X.A (exec st X.env) (SP X pins D) X.xe s
noncomputable def gP (X:Cx) (st:List Stmt) (t:TS):Prop:=
 ∀(pins:List (Addr × Obj)) (s:Shared) (σ:St) (H:Hp) (D:Ends),Inv X pins σ H s->t D σ H->wpAny (model X.prog X.w) X.A (execs st X.env) (SP X pins D) X.xe s
theorem aO {α:Type}{t:Sem α}{Q Q':α->Shared->Prop}{M:Model}{A:Around}{E:Value->Shared->Prop}{s:Shared}(h:wpAny M A t Q E s)(hQ:∀a s,Q a s->Q' a s):wpAny M A t Q' E s:=wpAny_mono h hQ λ_ _ x=>x
section
variable {X:Cx}
noncomputable def fW (i:Nat):TE:=λσ H Q=>∃v,σ[i]? =some (some v)/\Q v H
noncomputable def tC (v:V):TE:=λ_ H Q=>Q v H
theorem Z2 {i:Nat}{x:Str}{pos:Pos}(hN:X.N[i]? =some x)(hv:Bj X.env.scope x)(hd:(x == ("__debug__":Str))=false:=by decide)(hcd:(x == ("__classdict__":Str))=false:=by decide):PE X (.Name x pos) (fW i):=by
 intro pins s σ H Q I h
 obtain⟨v,e,h⟩:=h
 obtain⟨m,hn,hl⟩:=I.loc
 obtain⟨u,r,l⟩:=hl i x v hN e hv
 have fin:EP X pins σ Q u s:=⟨v,H,I,r,h⟩
 rcases l with⟨hk,hm⟩|⟨hk,c,hc,hcell⟩
 . exact wpAny_Name (wpAny_loadName_local I.ok.kind hk hn hm fin) hd
 . rcases hk with hk|hk
   . exact wpAny_Name (wpAny_loadName_cell I.ok.kind hk hc hcell fin) hd
   . exact wpAny_Name (wpAny_loadName_free I.ok.kind hk hc hcell fin hcd) hd
theorem ak {i j pos}:PE X (.Constant (.int i) j pos) (tC (.int i)):=λ_ _ _ H _ I h=>wpAny_Constant_int ⟨.int i,H,I.tok _,⟨_,rfl⟩,h⟩
theorem iM {b j pos}:PE X (.Constant (.bool b) j pos) (tC (.bl b)):=λ_ _ _ H _ I h=>Constant_bool ⟨.bl b,H,I,rfl,h⟩
theorem iQ {j pos}:PE X (.Constant .none j pos) (tC .non):=λ_ _ _ H _ I h=>Constant_none ⟨.non,H,I,rfl,h⟩
theorem bJ {x j pos}:PE X (.Constant (.str x) j pos) (tC (.str x)):=λ_ _ _ H _ I h=>Calls.Constant_str ⟨.str x,H,I.tok _,⟨_,rfl⟩,h⟩
noncomputable def Gl (X:Cx) (x:Str):Prop:=X.env.kindOf x=some .globalImplicit
theorem uM {E:Value->Shared->Prop}{pins:List (Addr × Obj)}{s:Shared}{σ:St}{H:Hp}{x:Str}{u:Value}{pos:Pos}{Q:Value->Shared->Prop}(I:Inv X pins σ H s)(hg:Gl X x)(hm:X.mg x=some u)(h:Q u s)
 (hd:(x == ("__debug__":Str))=false:=by decide):wpAny (model X.prog X.w) X.A (eval (.Name x pos) X.env) Q E s:=
 Calls.Name_function_global I.ok.kind hg (Calls.loadGlobal_global (by rw[I.ok.glob];exact I.mod.glob.keeps I.bk) hm h) hd
theorem oA {E:Value->Shared->Prop}{pins:List (Addr × Obj)}{s:Shared}{σ:St}{H:Hp}{x:Str}{u:Value}{pos:Pos}{Q:Value->Shared->Prop}(I:Inv X pins σ H s)(hg:Gl X x)(hm:X.mg x=none)(hv:bootBuiltins x=some u)(h:Q u s)
 (hn:x≠"__name__":=by decide) (hd:(x == ("__debug__":Str))=false:=by decide):wpAny (model X.prog X.w) X.A (eval (.Name x pos) X.env) Q E s:=by
 obtain⟨mb,h1,h2⟩:=I.mod.blt
 exact Calls.Name_function_global I.ok.kind hg (Calls.loadGlobal_builtin (by rw[I.ok.glob];exact I.mod.glob.keeps I.bk) hm (by rw[I.ok.blt];exact h1.keeps I.bk) ((h2 x hn).trans hv) h) hd
theorem xG {x:Str}{v:V}{u:Value}{pos:Pos}(hg:Gl X x)(hm:X.mg x=some u)(r:RelV v u)(hd:(x == ("__debug__":Str))=false:=by decide):PE X (.Name x pos) (tC v):=
 λ_ _ _ H _ I h=>uM I hg hm ⟨v,H,I,r,h⟩ hd
theorem gB {x:Str}{v:V}{u:Value}{pos:Pos}(hg:Gl X x)(hm:X.mg x=none)(hv:bootBuiltins x=some u)(r:RelV v u)(hn:x≠"__name__":=by decide)(hd:(x == ("__debug__":Str))=false:=by decide):PE X (.Name x pos) (tC v):=
 λ_ _ _ H _ I h=>oA I hg hm hv ⟨v,H,I,r,h⟩ hn hd
variable {a b:Expr}{ta tb:TE}{pos:Pos}
noncomputable def PC (X:Cx) (op:CmpOp) (a b:Expr) (t:TE):Prop:=
 ∀(pins:List (Addr × Obj)) (s:Shared) (σ:St) (H:Hp) (Q:VK),Inv X pins σ H s->t σ H Q->
  wpAny (model X.prog X.w) X.A (eval a X.env) (λv s₁=>wpAny (model X.prog X.w) X.A (eval b X.env) (λu s₂=>wpAny (model X.prog X.w) X.A (compareOp op v u) (EP X pins σ Q) X.xe s₂) X.xe s₁) X.xe s
noncomputable def tB (t:TE):TT:=λσ H Q=>t σ H λx H1=>∃c,x=.bl c/\Q c H1
theorem Z4 {op:CmpOp}{t:TE}(h:PC X op a b t)(h1:behindInMarks op b=false:=by first|exact Z5 _ (by decide) (by decide)|rfl):PE X (.Compare a [op] [b] pos) t:=λpins s σ H Q I hw=>wpAny_Compare1 (h pins s σ H Q I hw) h1
theorem Oo {op:CmpOp}{t:TE}(h:PC X op a b t)(h1:behindInMarks op b=false:=by first|exact Z5 _ (by decide) (by decide)|rfl):PT X (.Compare a [op] [b] pos) (tB t):=by
 intro pins s σ H Q I hw
 refine wpAny_isTrue_Compare1 (aO (h pins s σ H _ I hw) λv s1 h1=>aO h1 λu s2 h2=>aO h2 λc s3 ⟨x,H1,I1,r1,q1⟩=>?_) h1
 obtain⟨d,rfl,q⟩:=q1
 cases r1
 exact wpAny_truthy_bool ⟨H1,I1,q⟩
theorem gR {e:Expr}{t:TE}(h:PE X e t)(he:∀whole,isTrue e X.env whole=(do let v <-whole;standAt e.pos;holding [v] (truthy v)):=by intro _;rfl):PT X e (tB t):=by
 intro pins s σ H Q I hw
 refine isTrue_plain (aO (h pins s σ H _ I hw) λv s1 ⟨x,H1,I1,r1,q1⟩=>?_) (he _)
 obtain⟨d,rfl,q⟩:=q1
 cases r1
 exact wpAny_truthy_bool ⟨H1,I1,q⟩
variable {tA xH:TT}{rest:List Expr}
noncomputable def Z6 (t u:TT):TT:=λσ H Q=>t σ H λc H1=>if c=true then u σ H1 Q else Q false H1
noncomputable def Z7 (t u:TT):TT:=λσ H Q=>t σ H λc H1=>if c=true then Q true H1 else u σ H1 Q
noncomputable def Z8 (t:TT):TT:=λσ H Q=>t σ H λc H1=>Q (!c) H1
theorem oE (ha:PT X a tA):PW X (.BoolOp .And [a] pos) tA:=by
 intro wh pins s σ H Q I h
 refine isTrue_and (aO (ha pins s σ H Q I h) λc s1 e=>?_)
 cases c with
 |true=>exact isTrue_and_nil e
 |false=>exact e
theorem lF (ha:PT X a tA):PW X (.BoolOp .Or [a] pos) tA:=by
 intro wh pins s σ H Q I h
 refine isTrue_or (aO (ha pins s σ H Q I h) λc s1 e=>?_)
 cases c with
 |false=>exact isTrue_or_nil e
 |true=>exact e
theorem oF (ha:PT X a tA)(hb:PW X (.BoolOp .And (b::rest) pos) xH):PW X (.BoolOp .And (a::b::rest) pos) (Z6 tA xH):=by
 intro wh pins s σ H Q I h
 refine isTrue_and (aO (ha pins s σ H _ I h) λc s1 ⟨H1,I1,q1⟩=>?_)
 cases c with
 |true=>exact hb wh pins s1 σ H1 Q I1 q1
 |false=>exact⟨H1,I1,q1⟩
theorem lG (ha:PT X a tA)(hb:PW X (.BoolOp .Or (b::rest) pos) xH):PW X (.BoolOp .Or (a::b::rest) pos) (Z7 tA xH):=by
 intro wh pins s σ H Q I h
 refine isTrue_or (aO (ha pins s σ H _ I h) λc s1 ⟨H1,I1,q1⟩=>?_)
 cases c with
 |true=>exact⟨H1,I1,q1⟩
 |false=>exact hb wh pins s1 σ H1 Q I1 q1
theorem ji (ha:PT X a tA):PT X (.UnaryOp .Not a pos) (Z8 tA):=by
 intro pins s σ H Q I h
 exact isTrue_not (ha pins s σ H (λc H1=>Q (!c) H1) I h)
noncomputable def Z9 (ta tb:TE):TE:=λσ H Q=>ta σ H λx H1=>∃c,x=.bl c/\if c=true then tb σ H1 Q else Q (.bl false) H1
noncomputable def Z_ (ta tb:TE):TE:=λσ H Q=>ta σ H λx H1=>∃c,x=.bl c/\if c=true then Q (.bl true) H1 else tb σ H1 Q
noncomputable def aac (ta:TE):TE:=λσ H Q=>ta σ H λx H1=>∃c,x=.bl c/\Q (.bl (!c)) H1
theorem oG {op}{t:TE}(h:PE X a t):PE X (.BoolOp op [a] pos) t:=λpins s σ H Q I hw=>BoolOp_one (h pins s σ H Q I hw)
theorem oH (ha:PE X a ta)(hb:PE X (.BoolOp .And (b::rest) pos) tb):PE X (.BoolOp .And (a::b::rest) pos) (Z9 ta tb):=by
 intro pins s σ H Q I h
 refine BoolOp_and (aO (ha pins s σ H _ I h) λv s1 ⟨x,H1,I1,r1,q1⟩=>?_)
 obtain⟨c,rfl,q1⟩:=q1
 cases r1
 refine wpAny_truthy_bool ?_
 cases c with
 |true=>exact hb pins s1 σ H1 Q I1 q1
 |false=>exact⟨.bl false,H1,I1,rfl,q1⟩
theorem aad (ha:PE X a ta)(hb:PE X (.BoolOp .Or (b::rest) pos) tb):PE X (.BoolOp .Or (a::b::rest) pos) (Z_ ta tb):=by
 intro pins s σ H Q I h
 refine BoolOp_or (aO (ha pins s σ H _ I h) λv s1 ⟨x,H1,I1,r1,q1⟩=>?_)
 obtain⟨c,rfl,q1⟩:=q1
 cases r1
 refine wpAny_truthy_bool ?_
 cases c with
 |false=>exact hb pins s1 σ H1 Q I1 q1
 |true=>exact⟨.bl true,H1,I1,rfl,q1⟩
theorem Bm (ha:PE X a ta):PE X (.UnaryOp .Not a pos) (aac ta):=by
 intro pins s σ H Q I h
 refine UnaryOp_ (aO (ha pins s σ H _ I h) λv s1 ⟨x,H1,I1,r1,q1⟩=>?_)
 obtain⟨c,rfl,q1⟩:=q1
 cases r1
 exact not_of (wpAny_truthy_bool ⟨.bl (!c),H1,I1,rfl,q1⟩)
noncomputable def tIf (t:TT) (ta tb:TE):TE:=λσ H Q=>t σ H λc H1=>if c=true then ta σ H1 Q else tb σ H1 Q
theorem Bo {c:Expr}(hc:PT X c tA)(ha:PE X a ta)(hb:PE X b tb):PE X (.IfExp c a b pos) (tIf tA ta tb):=by
 intro pins s σ H Q I h
 refine wpAny_IfExp (aO (hc pins s σ H _ I h) λd s1 ⟨H1,I1,q1⟩=>?_)
 cases d with
 |true=>exact ha pins s1 σ H1 Q I1 q1
 |false=>exact hb pins s1 σ H1 Q I1 q1
end
noncomputable def aq (K:W.Frag) (H:Hp) (a:Addr) (xs:List V):Prop:=
 Rd H a (.lst xs)\/
  ∃(o:Obj) (its:Array Value) (n:Nat),K.lookup a=some o/\o.cls=.type "list"/\o.dict=none/\o.data=.seq its n/\its.size<=sizeLine/\Vals xs its.toList
noncomputable def aN (K:W.Frag) (H:Hp) (a:Addr) (xs:List V):Prop:=
 Rd H a (.tup xs)\/
  ∃(o:Obj) (its:Array Value) (n:Nat),K.lookup a=some o/\o.cls=.type "tuple"/\o.data=.seq its n/\its.size<=sizeLine/\Vals xs its.toList
noncomputable def aaf:Value->Option V
 | .none=>some .non
 | .bool b=>some (.bl b)
 | .int i _=>some (.int i)
 | .str x _=>some (.str x)
 | .bytes b _=>some (.jf b)
 | .float b _=>some (.flt b)
 | .ref a=>some (.ref a)
 | .type n=>some (.ty n)
 |_=>none
theorem RelV.abs {x:V}{u:Value}(r:RelV x u):aaf u=some x:=by
 cases x with
 |non=>cases r;rfl
 |bl _=>cases r;rfl
 |int _=>obtain⟨t,rfl⟩:=r;rfl
 |str _=>obtain⟨t,rfl⟩:=r;rfl
 |jf _=>obtain⟨t,rfl⟩:=r;rfl
 |flt _=>obtain⟨t,rfl⟩:=r;rfl
 |ref _=>cases r;rfl
 |ty _=>cases r;rfl
theorem RelV.inj {x y:V}{u:Value}(r:RelV x u)(q:RelV y u):x=y:=Option.some.inj (r.abs.symm.trans q.abs)
theorem Vals.inj:∀{xs ys:List V}{us:List Value},Vals xs us->Vals ys us->xs=ys
 |_,_,_,.nil,.nil=>rfl
 |_,_,_,.cons r t,.cons r' t'=>by rw[r.inj r',Vals.inj t t']
section
variable {X:Cx}{pins:List (Addr × Obj)}{σ:St}{H:Hp}{s:Shared}{a:Addr}{xs ys:List V}
theorem aq.of {K:W.Frag}(h:H a=some (.lst xs)):aq K H a xs:=.inl (.inl h)
theorem aN.of {K:W.Frag}(h:H a=some (.tup xs)):aN K H a xs:=.inl (.inl h)
theorem Inv.list (I:Inv X pins σ H s)(h:aq X.K H a xs):∃its:List Value,Vals xs its/\PlainL s.heap a its.toArray/\xs.length<=sizeLine:=by
 rcases h with h|⟨o,its,n,hk,hc,hd,hs,hz,r⟩
 . obtain⟨z,its,n,r,e⟩:=h.ok I.hok
   exact⟨its,r,⟨_,n,e,rfl,rfl,rfl⟩,z⟩
 . refine⟨its.toList,r,⟨o,n,I.cN a o hk,hc,hd,by simpa using hs⟩,?_⟩
   have e:=r.length
   simp only[Array.length_toList] at e
   omega
theorem Inv.tuple (I:Inv X pins σ H s)(h:aN X.K H a xs):∃its:List Value,Vals xs its/\IsTup s.heap a its.toArray/\xs.length<=sizeLine:=by
 rcases h with h|⟨o,its,n,hk,hc,hs,hz,r⟩
 . obtain⟨z,its,r,p⟩:=h.ok I.hok
   exact⟨its,r,p,z⟩
 . refine⟨its.toList,r,⟨o,I.cN a o hk,hc,n,by simpa using hs⟩,?_⟩
   have e:=r.length
   simp only[Array.length_toList] at e
   omega
theorem Inv.xJ (I:Inv X pins σ H s)(h:aq X.K H a xs)(h':aq X.K H a ys):xs=ys:=by
 obtain⟨its,r,⟨o,n,e,_,_,d⟩,_⟩:=I.list h
 obtain⟨its',r',⟨o',n',e',_,_,d'⟩,_⟩:=I.list h'
 rw[e] at e';cases e'
 rw[d] at d'
 injection d' with d1 _
 have:its=its':=by simpa using congrArg Array.toList d1
 subst this
 exact r.inj r'
theorem Inv.aag (I:Inv X pins σ H s)(h:aN X.K H a xs)(h':aN X.K H a ys):xs=ys:=by
 obtain⟨its,r,⟨o,e,_,n,d⟩,_⟩:=I.tuple h
 obtain⟨its',r',⟨o',e',_,n',d'⟩,_⟩:=I.tuple h'
 rw[e] at e';cases e'
 rw[d] at d'
 injection d' with d1 _
 have:its=its':=by simpa using congrArg Array.toList d1
 subst this
 exact r.inj r'
end
noncomputable abbrev Cx.wish (X:Cx) (E:Value->Shared->Prop):Cx:={ X with xe:=E }
noncomputable abbrev Cx.mK (X:Cx):Cx:=X.wish λ_ _=>False
theorem Cx.Ok.wish {X:Cx}(ok:X.Ok)(E:Value->Shared->Prop):(X.wish E).Ok:=
 ⟨ok.mod,ok.kind,ok.glob,ok.blt,ok.above,ok.inj,ok.has,ok.cab,ok.hd,ok.frames,ok.stk,ok.Bk,ok.bs,ok.jW,ok.rO,ok.uI,ok.ju,ok.ou⟩
theorem Cx.Ok.jE {X:Cx}{E:Value->Shared->Prop}(ok:(X.wish E).Ok):X.Ok:=
 ⟨ok.mod,ok.kind,ok.glob,ok.blt,ok.above,ok.inj,ok.has,ok.cab,ok.hd,ok.frames,ok.stk,ok.Bk,ok.bs,ok.jW,ok.rO,ok.uI,ok.ju,ok.ou⟩
section
variable {X:Cx}{pins:List (Addr × Obj)}{σ:St}{H:Hp}{s:Shared}{E:Value->Shared->Prop}
theorem Inv.wish (I:Inv X pins σ H s)(E:Value->Shared->Prop):Inv (X.wish E) pins σ H s:=⟨I.ok.wish E,I.os,I.bare,I.base,I.loc,I.cell,I.free,I.iC,I.pin,I.hok,I.len⟩
theorem Inv.jE (I:Inv (X.wish E) pins σ H s):Inv X pins σ H s:=⟨I.ok.jE,I.os,I.bare,I.base,I.loc,I.cell,I.free,I.iC,I.pin,I.hok,I.len⟩
theorem SP.jE {D:Ends}{f:Flow}{s':Shared}(h:SP (X.wish E) pins D f s'):SP X pins D f s':=by
 cases f with
 |next=>obtain⟨σ',H',I,q⟩:=h;exact⟨σ',H',I.jE,q⟩
 |brk=>obtain⟨σ',H',I,q⟩:=h;exact⟨σ',H',I.jE,q⟩
 |cont=>obtain⟨σ',H',I,q⟩:=h;exact⟨σ',H',I.jE,q⟩
 |ret u=>obtain⟨v,σ',H',I,r,q⟩:=h;exact⟨v,σ',H',I.jE,r,q⟩
theorem gP.mK {st:List Stmt}{t:TS}(h:gP X.mK st t):gP X st t:=λpins s σ H D I hw=>
 wpAny_mono (h pins s σ H D (I.wish _) hw) (λ_ _ q=>q.jE) λ_ _ z=>False.elim z
end
section
variable {X:Cx}{st:Stmt}{rest:List Stmt}{t u:TS}{e:Expr}{te:TE}{pos:Pos}
noncomputable def Oq:TS:=λD σ H=>D.nx σ H
noncomputable def xK (t u:TS):TS:=λD σ H=>t { D with nx:=u D } σ H
theorem aZ:gP X [] Oq:=λ_ _ σ H _ I h=>wpAny_execs_nil ⟨σ,H,I,h⟩
theorem aB (h1:PS X st t)(h2:gP X rest u):gP X (st::rest) (xK t u):=by
 intro pins s σ H D I h
 refine wpAny_execs_cons (aO (h1 pins s σ H { D with nx:=u D } I h) λf s1 q=>?_)
 cases f with
 |next=>
  obtain⟨σ',H',I',q⟩:=q
  exact h2 pins s1 σ' H' D I' q
 |ret v=>exact q
 |brk=>exact q
 |cont=>exact q
theorem aC (h1:PS X st t):gP X [st] t:=by
 intro pins s σ H D I h
 refine wpAny_execs_cons (aO (h1 pins s σ H D I h) λf s1 q=>?_)
 cases f with
 |next=>exact wpAny_execs_nil q
 |ret v=>exact q
 |brk=>exact q
 |cont=>exact q
theorem Inv.quiet {pins:List (Addr × Obj)}{σ:St}{H:Hp}{s:Shared}(I:Inv X pins σ H s):interactive X.env=false:=by simp[interactive,I.ok.kind]
noncomputable def Bp (te:TE):TS:=λD σ H=>te σ H λ_ H1=>D.nx σ H1
theorem jj (he:PE X e te)(hs:swapsWith e none pos.line X.env=pure false:=by rfl):PS X (.Expr e pos) (Bp te):=by
 intro pins s σ H D I h
 exact wpAny_Expr_any (aO (he pins s σ H _ I h) λv s1 ⟨x,H1,I1,r1,q1⟩=>⟨σ,H1,I1,q1⟩) I.quiet hs
noncomputable def aah (te:TE):TS:=λD σ H=>te σ H D.rt
theorem bf (he:PE X e te):PS X (.Return (some e) pos) (aah te):=by
 intro pins s σ H D I h
 exact wpAny_Return_some (aO (he pins s σ H _ I h) λv s1 ⟨x,H1,I1,r1,q1⟩=>⟨x,σ,H1,I1,r1,q1⟩)
noncomputable def lH (c:TT) (t u:TS):TS:=λD σ H=>c σ H λb H1=>if b=true then t D σ H1 else u D σ H1
theorem aV {c:Expr}{a b:List Stmt}{tc:TT}(hc:PT X c tc)(ha:gP X a t)(hb:gP X b u):PS X (.If c a b pos) (lH tc t u):=by
 intro pins s σ H D I h
 refine wpAny_If (aO (hc pins s σ H _ I h) λd s1 ⟨H1,I1,q1⟩=>?_)
 cases d with
 |true=>exact ha pins s1 σ H1 D I1 q1
 |false=>exact hb pins s1 σ H1 D I1 q1
noncomputable def aai:TS:=λ_ _ _=>False
theorem bZ:PS X st aai:=λ_ _ _ _ _ _ h=>h.elim
end
noncomputable abbrev TG:=V->St->Hp->(St->Hp->Prop)->Prop
noncomputable abbrev qD:=List V->St->Hp->(St->Hp->Prop)->Prop
noncomputable def PG (X:Cx) (target:Expr) (t:TG):Prop:=
 ∀(pins:List (Addr × Obj)) (s:Shared) (σ:St) (H:Hp) (v:V) (u:Value) (Q:St->Hp->Prop),Inv X pins σ H s->RelV v u->t v σ H Q->
  wpAny (model X.prog X.w) X.A (assign target X.env u) (λ_ s'=>∃σ' H',Inv X pins σ' H' s'/\Q σ' H') X.xe s
noncomputable def xM (X:Cx) (ts:List Expr) (t:qD):Prop:=
 ∀(pins:List (Addr × Obj)) (s:Shared) (σ:St) (H:Hp) (vs:List V) (us:List Value) (Q:St->Hp->Prop),Inv X pins σ H s->Vals vs us->t vs σ H Q->
  wpAny (model X.prog X.w) X.A (assignInOrder ((assignEach ts X.env).map (·.2)) us) (λ_ s'=>∃σ' H',Inv X pins σ' H' s'/\Q σ' H') X.xe s
noncomputable abbrev Bq:=V->V->V->Hp->(Hp->Prop)->Prop
noncomputable def Ot (X:Cx) (t:Bq):Prop:=
 ∀(pins:List (Addr × Obj)) (s:Shared) (σ:St) (H:Hp) (o i v:V) (ov iv u:Value) (Q:Hp->Prop),Inv X pins σ H s->RelV o ov->RelV i iv->RelV v u->t o i v H Q->
  wpAny (model X.prog X.w) X.A (setItem ov iv u) (λ_ s'=>∃H',Inv X pins σ H' s'/\Q H') X.xe s
section
variable {X:Cx}{pos:Pos}
noncomputable def dG (i:Nat):TG:=λv σ H Q=>Q (σ.set i (some v)) H
theorem cG {i:Nat}{x:Str}(hN:X.N.Nodup)(hi:X.N[i]? =some x)(hx:Loc X.env.scope x)(hf:X.fn x=true\/X.env.scope.names.lookup x=some .local:=by first|exact .inl rfl|exact .inr rfl|assumption):PG X (.Name x pos) (dG i):=by
 intro pins s σ H v u Q I r h
 exact wpAny_assign_Name (uL I hN hi hx r (λs' I'=>⟨_,H,I',h⟩) hf)
noncomputable def Br:qD:=λvs σ H Q=>vs=[]/\Q σ H
noncomputable def uN (t:TG) (u:qD):qD:=λvs σ H Q=>∃v r,vs=v::r/\t v σ H λσ' H'=>u r σ' H' Q
theorem lJ:xM X [] Br:=by
 intro pins s σ H vs us Q I r h
 obtain⟨e,h⟩:=h
 subst e
 cases r
 exact assignInOrder_nil ⟨σ,H,I,h⟩
theorem eY {e:Expr}{es:List Expr}{t:TG}{u:qD}(h1:PG X e t)(h2:xM X es u)
 (hs:(assignEach (e::es) X.env).map (·.2)=assign e X.env::(assignEach es X.env).map (·.2):=by rfl):xM X (e::es) (uN t u):=by
 intro pins s σ H vs us Q I r h
 obtain⟨v,vr,e1,h⟩:=h
 subst e1
 cases r with
 |cons r rr=>
  rw[hs]
  refine assignInOrder_cons (aO (h1 pins s σ H _ _ _ I r h) λ_ s1 ⟨σ1,H1,I1,q1⟩=>?_)
  exact h2 pins s1 σ1 H1 _ _ Q I1 rr q1
noncomputable def Bs (K:W.Frag) (n:Nat) (t:qD):TG:=λv σ H Q=>∃a xs,v=.ref a/\aN K H a xs/\xs.length=n/\t xs σ H Q
theorem lK {es:List Expr}{k:Nat}{t:qD}{n:Nat}(hc:X.calm=true)(h:xM X es t)
 (hn:(assignEach es X.env).length=n:=by rfl) (hst:(assignEach es X.env).findIdx? (·.1)=none:=by rfl):PG X (.Tuple es k pos) (Bs X.K n t):=by
 intro pins s σ H v u Q I r hw
 obtain⟨a,xs,e1,hq,hl,hw⟩:=hw
 subst e1
 cases r
 obtain⟨its,rv,ht,hz⟩:=I.tuple hq
 refine assign_Tuple_tuple (I.ok.hd hc) ht (by simp[hn,<-hl,rv.length]) hst λh' hx=>?_
 have I1:Inv X pins σ H { s with heap:=h' }:=I.kept (t':=s.toks) λb o e=>hx b o (Nat.ne_of_lt (Heap.lt_size e)) e
 exact h pins _ σ H xs _ Q I1 (by simpa using rv) hw
noncomputable def aaj (to ti:TE) (t:Bq):TG:=λv σ H Q=>to σ H λo H1=>ti σ H1 λi H2=>t o i v H2 λH3=>Q σ H3
theorem Ou {o i:Expr}{to ti:TE}{t:Bq}(ho:PE X o to)(hi:PE X i ti)(hs:Ot X t)
 (ha:∀v,assign (.Subscript o i pos) X.env v=(do
   let ov <-holding [v] (eval o X.env)
   let iv <-holding [v,ov] (eval i X.env)
   standAt pos
   holding [v,ov,iv] (setItem ov iv v)
   release [v,ov,iv] []):=by intro _;rfl):PG X (.Subscript o i pos) (aaj to ti t):=by
 intro pins s σ H v u Q I r h
 rw[ha]
 refine wpAny_bind (wpAny_holding (aO (ho pins s σ H _ I h) λov s1 ⟨x,H1,I1,r1,q1⟩=>?_))
 refine wpAny_bind (wpAny_holding (aO (hi pins s1 σ H1 _ I1 q1) λiv s2 ⟨y,H2,I2,r2,q2⟩=>?_))
 refine wpAny_bind (wpAny_standAt (wpAny_bind (wpAny_holding (aO (hs pins s2 σ H2 x y v ov iv u _ I2 r1 r2 r q2) λ_ s3 ⟨H3,I3,q3⟩=>?_))))
 exact wpAny_release ⟨σ,H3,I3,q3⟩
noncomputable def mL (te:TE) (g:TG):TS:=λD σ H=>te σ H λx H1=>g x σ H1 D.nx
theorem Ov {tg e:Expr}{te:TE}{g:TG}(he:PE X e te)(hg:PG X tg g)(hs:swapsWithSole [tg] e pos.line X.env=pure false:=by rfl)(hw:swappedStores [tg] e X.env=pure none:=by rfl)
 (h1:(assignEach [tg] X.env).map (·.2)=[assign tg X.env]:=by rfl):PS X (.Assign [tg] e pos) (mL te g):=by
 intro pins s σ H D I h
 refine wpAny_Assign_stores (aO (he pins s σ H _ I h) λv s1 ⟨x,H1,I1,r1,q1⟩=>?_) hs hw
 rw[h1]
 exact aO (hg pins s1 σ H1 x v _ I1 r1 q1) λ_ s2 q=>q
theorem aW {i:Nat}{x:Str}{e:Expr}{te:TE}{pos':Pos}(hN:X.N.Nodup)(hi:X.N[i]? =some x)(hx:Loc X.env.scope x)(he:PE X e te)(hs:swapsWith e (some (.Name x pos')) pos.line X.env=pure false:=by rfl)(hf:X.fn x=true\/X.env.scope.names.lookup x=some .local:=by first|exact .inl rfl|exact .inr rfl|assumption):
 PS X (.Assign [.Name x pos'] e pos) (mL te (dG i)):=by
 intro pins s σ H D I h
 refine wpAny_Assign_Name (aO (he pins s σ H _ I h) λv s1 ⟨y,H1,I1,r1,q1⟩=>?_) hs
 exact uL I1 hN hi hx r1 (λs2 I2=>⟨_,H1,I2,q1⟩) hf
end
section
variable {X:Cx}{pos:Pos}
end
structure It where
 go:Nat->Hp->Prop
 mO:Nat->Hp->V->Hp->Prop
 stop:Nat->Hp->Prop
noncomputable def fX (X:Cx) (pins:List (Addr × Obj)) (H:Hp) (b:Addr):Prop:=
 H b=none/\b≠X.env.locals/\b ∉ X.fs/\(b∈X.ex\/X.s₀.heap.objs.size<=b)/\(∀x c,X.env.cells.lookup x=some c->c≠b)/\∀p∈X.pn++pins,p.1≠b
theorem Inv.qF {X:Cx}{pins:List (Addr × Obj)}{σ:St}{H H':Hp}{s:Shared}{b:Addr}(I:Inv X pins σ H s)(hb:s.heap.objs.size<=b)(hn:H' b=none):fX X pins H' b:=by
 refine⟨hn,Nat.ne_of_gt (Nat.lt_of_lt_of_le I.lt hb),I.rP hb,.inr (Nat.le_trans I.sz hb),λx c e z=>?_,λp hp z=>?_⟩
 . obtain⟨v,q⟩:=I.cell x c e
   exact absurd (Nat.lt_of_lt_of_le q.lt (by rw[z];exact hb)) (Nat.lt_irrefl _)
 . exact absurd (Nat.lt_of_lt_of_le (Heap.lt_size (I.pin p hp).1) (by rw[z];exact hb)) (Nat.lt_irrefl _)
structure Turn (P:Program) (w:World) (K:W.Frag) (tg:Expr) (J:It) (fp:List Addr) (it:Addr) (tn:Nat->Heap->Prop):Prop where
 mem:it∈fp
 obj:∀i h,tn i h->∀b∈fp,∃o,h.get? b=some o/\∀v,o.data≠ .cell v
 keep:∀i h h',tn i h->(∀b∈fp,∀o,h.get? b=some o->h'.get? b=some o)->tn i h'
 item:∀(X:Cx),X.prog=P->X.w=w->X.K=K->X.calm=true->∀(i:Nat) (pins:List (Addr × Obj)) (s:Shared) (σ:St) (H:Hp) (E:Value->Shared->Prop),Inv X pins σ H s->(∀b∈fp,fX X pins H b)->tn i s.heap->J.go i H->
  wpAny (model P w) X.A (pyNext (.ref it)) (λr s1=>∃u,r=some u/\
   wpAny (model P w) X.A (letOwnedTupleGo tg (.ref it) u) (λ_ s2=>∃x H',Inv X pins σ H' s2/\RelV x u/\J.mO i H x H'/\tn (i+1) s2.heap/\∀b∈fp,H' b=none) E s1) E s
 done:∀(X:Cx),X.prog=P->X.w=w->X.K=K->X.calm=true->∀(i:Nat) (pins:List (Addr × Obj)) (s:Shared) (σ:St) (H:Hp) (E:Value->Shared->Prop),Inv X pins σ H s->(∀b∈fp,fX X pins H b)->tn i s.heap->J.stop i H->
  wpAny (model P w) X.A (pyNext (.ref it)) (λr s1=>r=none/\Inv X pins σ H s1) E s
 self:∀(A:Around) (i:Nat) (s:Shared) (Q:Value->Shared->Prop) (E:Value->Shared->Prop),tn i s.heap->Q (.ref it) s->wpAny (model P w) A (pyIter (.ref it)) Q E s
noncomputable abbrev TI:=St->Hp->(It->Hp->Prop)->Prop
noncomputable def PIE (X:Cx) (pins:List (Addr × Obj)) (σ:St) (tg:Expr) (R:It->Hp->Prop) (itv:Value) (s2:Shared):Prop:=
 ∃(it:Addr) (fp:List Addr) (tn:Nat->Heap->Prop) (J:It) (H':Hp),itv=.ref it/\Inv X pins σ H' s2/\Turn X.prog X.w X.K tg J fp it tn/\tn 0 s2.heap/\(∀b∈fp,fX X pins H' b)/\R J H'
noncomputable def PI (X:Cx) (tg iter:Expr) (wi:TI):Prop:=
 ∀(pins:List (Addr × Obj)) (s:Shared) (σ:St) (H:Hp) (R:It->Hp->Prop),Inv X pins σ H s->wi σ H R->
  wpAny (model X.prog X.w) X.A (eval iter X.env) (λv s1=>wpAny (model X.prog X.w) X.A (pyIter v) (PIE X pins σ tg R) X.xe s1) X.xe s
theorem Bt {M:Model}{A:Around}{E:Value->Shared->Prop}{s:Shared}{tg:Expr}{it:Addr}{u:Value}{o:Obj}{n:String}{vs:Array Value}{Q:Unit->Shared->Prop}(ho:s.heap.get? it=some o)(hc:o.cls=.type n)(hd:o.data=.fields vs)
 (hn:["enumerate","zip","dict_itemiterator","dict_reverseitemiterator","odict_iterator","itertools.zip_longest","itertools.pairwise"].contains n=false) (hQ:Q () s):wpAny M A (letOwnedTupleGo tg (.ref it) u) Q E s:=by
 unfold letOwnedTupleGo
 cases tg <;> first
  |exact wpAny_pure hQ
  |(cases u <;> first
     |exact wpAny_pure hQ
     |(refine wpAny_bind (wpAny_load ho ?_)
       rw[hc,hd]
       show wpAny M A (if(["enumerate","zip","dict_itemiterator","dict_reverseitemiterator","odict_iterator","itertools.zip_longest","itertools.pairwise"].contains n && vs[0]? == some (rawInt _))=true then _ else _) Q E s
       rw[if_neg (by intro h;rw[hn,Bool.false_and] at h;cases h)]
       exact wpAny_pure hQ))
noncomputable def uO (K:W.Frag) (a:Addr):It:=
 ⟨λi H=>∃xs x,aq K H a xs/\xs[i]? =some x,λi H x H'=>H'=H/\∀xs,aq K H a xs->xs[i]? =some x,λi H=>∃xs,aq K H a xs/\xs.length<=i⟩
noncomputable def uP (K:W.Frag) (a:Addr):It:=
 ⟨λi H=>∃xs x,aN K H a xs/\xs[i]? =some x,λi H x H'=>H'=H/\∀xs,aN K H a xs->xs[i]? =some x,λi H=>∃xs,aN K H a xs/\xs.length<=i⟩
noncomputable def qG (lo:Int) (n:Nat):It:=⟨λi _=>i<n,λi H x H'=>H'=H/\x=.int (lo+i),λi _=>n<=i⟩
theorem aak {P:Program}{w:World}{K:W.Frag}{tg:Expr}(a it:Addr):Turn P w K tg (uO K a) [it] it (λi h=>h.IsListIter it a i) where
 mem:=by simp
 obj:=λi h st b hb=>by
  have e:b=it:=by simpa using hb
  subst e
  obtain⟨o,e,c,d⟩:=st
  exact⟨o,e,λv z=>by rw[d] at z;cases z⟩
 keep:=λi h h' st k=>st.at λo e=>k it (by simp) o e
 item:=by
  intro X hP hw hK hc i pins s σ H E I hf st hg
  subst hP hw hK
  obtain⟨xs,x,hq,hx⟩:=hg
  obtain⟨its,rv,p,hz⟩:=I.list hq
  obtain⟨u,hu,ru⟩:=rv.get hx
  obtain⟨f0,f1,f2,f3,f4,f5⟩:=hf it (by simp)
  refine wpAny_pyNext_list_item st p.isList (x:=u) (by simpa using hu) λh' st' sb=>?_
  have I1:Inv X pins σ H { s with heap:=h' }:=I.turned (t':=s.toks) (λb o hb e=>(sb.2 b hb).trans e) f0 f1 f3 f4 f5
  obtain⟨o,e,c,d⟩:=id st'
  exact⟨u,rfl,Bt (s:={ s with heap:=h' }) e c d (by decide) ⟨x,H,I1,ru,⟨rfl,λys hy=>by rw[I.xJ hy hq];exact hx⟩,st',λb hb=>(hf b hb).1⟩⟩
 done:=by
  intro X hP hw hK hc i pins s σ H E I hf st hg
  subst hP hw hK
  obtain⟨xs,hq,hx⟩:=hg
  obtain⟨its,rv,p,hz⟩:=I.list hq
  obtain⟨f0,f1,f2,f3,f4,f5⟩:=hf it (by simp)
  have hl:=rv.length
  exact wpAny_pyNext_list_end (I.ok.hd hc) st p.isList (by simp;omega) λh' eb=>⟨rfl,I.turned (t':=s.toks) (λb o hb e=>eb b o hb e) f0 f1 f3 f4 f5⟩
 self:=λ_ _ _ _ _ st h=>wpAny_pyIter_listiter st h
theorem aal {P:Program}{w:World}{K:W.Frag}{tg:Expr}(a it:Addr):Turn P w K tg (uP K a) [it] it (λi h=>h.IsTupleIter it a i) where
 mem:=by simp
 obj:=λi h st b hb=>by
  have e:b=it:=by simpa using hb
  subst e
  obtain⟨o,e,c,d⟩:=st
  exact⟨o,e,λv z=>by rw[d] at z;cases z⟩
 keep:=λi h h' st k=>st.at λo e=>k it (by simp) o e
 item:=by
  intro X hP hw hK hc i pins s σ H E I hf st hg
  subst hP hw hK
  obtain⟨xs,x,hq,hx⟩:=hg
  obtain⟨its,rv,p,hz⟩:=I.tuple hq
  obtain⟨u,hu,ru⟩:=rv.get hx
  obtain⟨f0,f1,f2,f3,f4,f5⟩:=hf it (by simp)
  refine wpAny_pyNext_tuple_item st (show s.heap.IsTuple a its.toArray from p) (x:=u) (by simpa using hu) λh' st' sb=>?_
  have I1:Inv X pins σ H { s with heap:=h' }:=I.turned (t':=s.toks) (λb o hb e=>(sb.2 b hb).trans e) f0 f1 f3 f4 f5
  obtain⟨o,e,c,d⟩:=id st'
  exact⟨u,rfl,Bt (s:={ s with heap:=h' }) e c d (by decide) ⟨x,H,I1,ru,⟨rfl,λys hy=>by rw[I.aag hy hq];exact hx⟩,st',λb hb=>(hf b hb).1⟩⟩
 done:=by
  intro X hP hw hK hc i pins s σ H E I hf st hg
  subst hP hw hK
  obtain⟨xs,hq,hx⟩:=hg
  obtain⟨its,rv,p,hz⟩:=I.tuple hq
  obtain⟨f0,f1,f2,f3,f4,f5⟩:=hf it (by simp)
  have hl:=rv.length
  exact wpAny_pyNext_tuple_end (I.ok.hd hc) st (show s.heap.IsTuple a its.toArray from p) (by simp;omega) λh' eb=>⟨rfl,I.turned (t':=s.toks) (λb o hb e=>eb b o hb e) f0 f1 f3 f4 f5⟩
 self:=λ_ _ _ _ _ st h=>wpAny_pyIter_tupleiter st h
theorem aam {P:Program}{w:World}{K:PySem.W.Frag}{tg:Expr}(it:Addr)(lo:Int)(n:Nat):Turn P w K tg (qG lo n) [it] it (λi h=>IsRangeIter h it (lo+(i:Nat) * 1) ((n:Int) - (i:Nat)) 1) where
 mem:=by simp
 obj:=λi h st b hb=>by
  have e:b=it:=by simpa using hb
  subst e
  exact⟨_,st,λv z=>by
   have z':Data.fields _=Data.cell v:=z
   cases z'⟩
 keep:=λi h h' st k=>k it (by simp) _ st
 item:=by
  intro X hP hw hK hc i pins s σ H E I hf st hg
  subst hP hw hK
  obtain⟨f0,f1,f2,f3,f4,f5⟩:=hf it (by simp)
  have W:=Walks.range (prog:=X.prog) (w:=X.w) (I.ok.hd hc) it lo 1 n
  refine W.item i s _ _ hg st λv h' tk hv st' kk=>?_
  obtain⟨t,rfl⟩:=hv
  have I1:Inv X pins σ H { s with heap:=h',toks:=tk }:=I.turned (λb o hb e=>kk b o (by simpa using hb) e) f0 f1 f3 f4 f5
  refine⟨_,rfl,Bt (s:={ s with heap:=h',toks:=tk }) (n:="range_iterator") st' rfl rfl (by decide) ⟨.int (lo+i),H,I1,⟨t,?_⟩,⟨rfl,rfl⟩,st',λb hb=>(hf b hb).1⟩⟩
  rw[Int.mul_one]
 done:=by
  intro X hP hw hK hc i pins s σ H E I hf st hg
  subst hP hw hK
  obtain⟨f0,f1,f2,f3,f4,f5⟩:=hf it (by simp)
  exact wpAny_pyNext_range_end (I.ok.hd hc) st (by have:n<=i:=hg;omega) λh' eb=>⟨rfl,I.turned (t':=s.toks) (λb o hb e=>eb b o hb e) f0 f1 f3 f4 f5⟩
 self:=λ_ _ _ _ _ st h=>wpAny_pyIter_rangeiter st h
section
variable {X:Cx}{tg:Expr}
noncomputable def Ow (K:W.Frag) (tl:TE):TI:=λσ H R=>tl σ H λx H1=>∃a,x=.ref a/\(∃xs,aq K H1 a xs)/\R (uO K a) H1
noncomputable def aan (K:W.Frag) (tl:TE):TI:=λσ H R=>tl σ H λx H1=>∃a,x=.ref a/\(∃xs,aN K H1 a xs)/\R (uP K a) H1
theorem jY {l:Expr}{tl:TE}(hl:PE X l tl):PI X tg l (Ow X.K tl):=by
 intro pins s σ H R I h
 refine aO (hl pins s σ H _ I h) λv s1 ⟨x,H1,I1,r1,q1⟩=>?_
 obtain⟨a,e,⟨xs,hq⟩,q⟩:=q1
 subst e
 cases r1
 obtain⟨its,rv,p,hz⟩:=I1.list hq
 refine wpAny_pyIter_list p.isList ?_
 refine⟨s1.heap.objs.size,[s1.heap.objs.size],_,_,H1,rfl,I1.kept (t':=s1.toks) λb o e=>Heap.get?_push_of_some _ e,aak a _,⟨_,Heap.get?_push_size _ rfl,rfl,rfl⟩,λb hb=>?_,q⟩
 have e:b=s1.heap.objs.size:=by simpa using hb
 subst e
 exact I1.qF (Nat.le_refl _) (I1.hok.fresh (Nat.le_refl _))
theorem uQ {l:Expr}{tl:TE}(hl:PE X l tl):PI X tg l (aan X.K tl):=by
 intro pins s σ H R I h
 refine aO (hl pins s σ H _ I h) λv s1 ⟨x,H1,I1,r1,q1⟩=>?_
 obtain⟨a,e,⟨xs,hq⟩,q⟩:=q1
 subst e
 cases r1
 obtain⟨its,rv,p,hz⟩:=I1.tuple hq
 refine wpAny_pyIter_tuple (show s1.heap.IsTuple a its.toArray from p) ?_
 refine⟨s1.heap.objs.size,[s1.heap.objs.size],_,_,H1,rfl,I1.kept (t':=s1.toks) λb o e=>Heap.get?_push_of_some _ e,aal a _,⟨_,Heap.get?_push_size _ rfl,rfl,rfl⟩,λb hb=>?_,q⟩
 have e:b=s1.heap.objs.size:=by simpa using hb
 subst e
 exact I1.qF (Nat.le_refl _) (I1.hok.fresh (Nat.le_refl _))
theorem Ox {pins:List (Addr × Obj)}{σ:St}{H:Hp}{s:Shared}{R:It->Hp->Prop}{E:Value->Shared->Prop}{lo hi:Int}{t u v:Tok}{tk:Nat}(I:Inv X pins σ H s)(h1: -(2 ^ 62)<=lo)(h2:lo<2 ^ 62)(h3: -(2 ^ 62)<=hi)(h4:hi<2 ^ 62)
 (q:R (qG lo (hi - lo).toNat) H):wpAny (model X.prog X.w) X.A (pyIter (.ref s.heap.objs.size)) (PIE X pins σ tg R) E { s with heap:=s.heap.push { cls:=.type "range",data:=.fields #[.int lo t,.int hi u,.int 1 v] },toks:=tk }:=by
 refine wpAny_pyIter_range (IsRange.new ..) (small_one h1 h2 h3 h4) ?_
 have I1:Inv X pins σ H { s with heap:=s.heap.push { cls:=.type "range",data:=.fields #[.int lo t,.int hi u,.int 1 v] },toks:=tk }:=I.kept λb o e=>Heap.get?_push_of_some _ e
 refine⟨(s.heap.push { cls:=.type "range",data:=.fields #[.int lo t,.int hi u,.int 1 v] }).objs.size,[(s.heap.push { cls:=.type "range",data:=.fields #[.int lo t,.int hi u,.int 1 v] }).objs.size],_,_,H,rfl,
  I1.kept (t':=tk) λb o e=>Heap.get?_push_of_some _ e,aam _ lo (hi - lo).toNat,?_,λb hb=>?_,q⟩
 . have e1:lo+((0:Nat):Int) * 1=lo:=by simp
   have e2:(((hi - lo).toNat:Nat):Int) - ((0:Nat):Int)=Builtin.Range.rangeSize lo hi 1:=by rw[rangeSize_one];split <;> omega
   show IsRangeIter _ _ (lo+((0:Nat):Int) * 1) ((((hi - lo).toNat:Nat):Int) - ((0:Nat):Int)) 1
   rw[e1,e2]
   exact Heap.get?_push_size _ rfl
 . have e:b=(s.heap.push { cls:=.type "range",data:=.fields #[.int lo t,.int hi u,.int 1 v] }).objs.size:=by simpa using hb
   subst e
   exact I1.qF (Nat.le_refl _) (I1.hok.fresh (Nat.le_refl _))
noncomputable def aao (ta:TA):TI:=λσ H R=>ta σ H λvs H1=>∃j:Int,vs=[.int j]/\ -(2 ^ 62)<=j/\j<2 ^ 62/\R (qG 0 j.toNat) H1
noncomputable def aap (ta:TA):TI:=λσ H R=>ta σ H λvs H1=>∃i j:Int,vs=[.int i,.int j]/\(-(2 ^ 62)<=i/\i<2 ^ 62/\ -(2 ^ 62)<=j/\j<2 ^ 62)/\R (qG i (j - i).toNat) H1
theorem Bu {a:Expr}{ta:TA}{p pos:Pos}(hg:Gl X "range")(hm:X.mg "range"=none)(ha:PA X [a] ta)(hs:starEach [a] X.env=[(false,eval a X.env)]:=by rfl):PI X tg (.Call (.Name "range" p) [a] [] pos) (aao ta):=by
 intro pins s σ H R I h
 refine Call_ (oA I hg hm boot_range (PyProof.Rows.callWith_type1 (aO (ha pos pins s σ H _ I h) λus s1 ⟨vs,H1,I1,r1,q1⟩=>?_) hs rfl))
 obtain⟨j,e,q1,q2,q⟩:=q1
 subst e
 cases r1 with
 |cons r rr=>
  cases rr
  obtain⟨t,rfl⟩:=r
  exact call_range_1 (Ox I1 (by omega) (by omega) q1 q2 (by simpa using q))
theorem Oz {a b:Expr}{ta:TA}{p pos:Pos}(hg:Gl X "range")(hm:X.mg "range"=none)(ha:PA X [a,b] ta)(hs:starEach [a,b] X.env=[(false,eval a X.env),(false,eval b X.env)]:=by rfl)(hs2:starEach [b] X.env=[(false,eval b X.env)]:=by rfl):
 PI X tg (.Call (.Name "range" p) [a,b] [] pos) (aap ta):=by
 intro pins s σ H R I h
 refine Call_ (oA I hg hm boot_range (PyProof.Rows.callWith_type1 (aO (ha pos pins s σ H _ I h) λus s1 ⟨vs,H1,I1,r1,q1⟩=>?_) (by rw[hs,hs2]) (by rw[hs2];rfl)))
 obtain⟨i,j,e,⟨q1,q2,q3,q4⟩,q⟩:=q1
 subst e
 cases r1 with
 |cons r rr=>
  cases rr with
  |cons r' rr=>
   cases rr
   obtain⟨t,rfl⟩:=r
   obtain⟨t',rfl⟩:=r'
   exact call_range_2 (Ox I1 q1 q2 q3 q4 q)
noncomputable def Bv (wi:TI) (g:TG) (tb:TS):TS:=λD σ H=>wi σ H λJ H1=>∃W:Nat->Nat->St->Hp->Prop,(∃m,W 0 m σ H1)/\∀i m σ H,W i m σ H->
 (J.stop i H/\D.nx σ H)\/(J.go i H/\∃N:St->Hp->Prop,(∀σ' H',N σ' H'->∃m',m'<m/\W (i+1) m' σ' H')/\∀x H',J.mO i H x H'->g x σ H' λσ2 H2=>tb { D with nx:=N,ct:=N,bk:=D.nx } σ2 H2)
noncomputable def xO (fp:List Addr) (h:Heap):List (Addr × Obj):=fp.filterMap λb=>(h.get? b).map λo=>(b,o)
theorem uR {fp:List Addr}{h:Heap}{b:Addr}{o:Obj}(hb:b∈fp)(e:h.get? b=some o):(b,o)∈xO fp h:=List.mem_filterMap.mpr ⟨b,hb,by rw[e];rfl⟩
theorem aaq {fp:List Addr}{h:Heap}{p:Addr × Obj}(hp:p∈xO fp h):p.1∈fp/\h.get? p.1=some p.2:=by
 obtain⟨b,hb,e⟩:=List.mem_filterMap.mp hp
 cases q:h.get? b with
 |none=>rw[q] at e;cases e
 |some o=>
  rw[q] at e
  have e':(b,o)=p:=Option.some.inj e
  subst e'
  exact⟨hb,q⟩
theorem Inv.pinned {pins:List (Addr × Obj)}{σ:St}{H:Hp}{s:Shared}{fp:List Addr}(I:Inv X pins σ H s)(hf:∀b∈fp,fX X pins H b)(ho:∀b∈fp,∃o,s.heap.get? b=some o/\∀v,o.data≠ .cell v):Inv X (pins++xO fp s.heap) σ H s:=
 I.qC λp hp=>(List.mem_append.mp hp).elim (λz=>I.pin p (List.mem_append_right _ z)) λz=>by
   obtain⟨hb,e⟩:=aaq z
   obtain⟨f0,f1,f2,_⟩:=hf p.1 hb
   obtain⟨o,e',d⟩:=ho p.1 hb
   rw[e] at e';cases e'
   exact⟨e,f0,f1,f2,d⟩
theorem Inv.oJ {pins pl:List (Addr × Obj)}{σ:St}{H:Hp}{s:Shared}(I:Inv X (pins++pl) σ H s):Inv X pins σ H s:=I.qC λp hp=>I.pin p (List.mem_append_right _ (List.mem_append_left _ hp))
theorem fY {iter:Expr}{body:List Stmt}{wi:TI}{g:TG}{tb:TS}{pos:Pos}(hp:PassesOwn (model X.prog X.w) X.A X.env X.xe)(hc:X.calm=true)(hi:PI X tg iter wi)(hg:PG X tg g)(hb:gP X body tb)
 (hs:∀x,foldedSetIterable iter X.env x=pure x:=by intro _;rfl):PS X (.For tg iter body [] pos) (Bv wi g tb):=by
 intro pins s σ H D I h
 refine wpAny_For (aO (hi pins s σ H _ I h) λv s1 h1=>aO h1 λitv s2 h2=>?_) hs
 obtain⟨it,fp,tn,J,H2,e,I2,T,st2,f2,W,⟨m0,w0⟩,turn⟩:=h2
 subst e
 have stat:∀{H':Hp},(∀b∈fp,H' b=none)->∀b∈fp,fX X pins H' b:=λhn b hb=>⟨hn b hb,(f2 b hb).2⟩
 refine codeAny_forLoop_any (λn s'=>∃i σ' H',Inv X pins σ' H' s'/\tn i s'.heap/\(∀b∈fp,H' b=none)/\W i n σ' H') ?_ m0 ⟨0,σ,H2,I2,st2,λb hb=>(f2 b hb).1,w0⟩
 rintro n s3 ⟨i,σ3,H3,I3,st3,xP,w3⟩
 rcases turn i n σ3 H3 w3 with⟨stop,qn⟩|⟨go,N,hN,step⟩
 . refine wpAny_passesOwn hp (aO (T.done X rfl rfl rfl hc i pins s3 σ3 H3 X.xe I3 (stat xP) st3 stop) λr s4 ⟨hr,I4⟩=>?_)
   subst hr
   exact wpAny_execs_nil ⟨σ3,H3,I4,qn⟩
 . refine wpAny_passesOwn hp (aO (T.item X rfl rfl rfl hc i pins s3 σ3 H3 X.xe I3 (stat xP) st3 go) λr s4 ⟨u,hr,h4⟩=>?_)
   subst hr
   refine wpAny_passesOwn hp (aO h4 λ_ s5 ⟨x,H5,I5,r5,y5,Bw,fr5⟩=>?_)
   have I5':=I5.pinned (stat fr5) (T.obj _ _ Bw)
   refine wpAny_passesOwn hp (aO (hg _ s5 σ3 H5 x u _ I5' r5 (step x H5 y5)) λ_ s6 ⟨σ6,H6,I6,q6⟩=>?_)
   refine wpAny_passesOwn hp (aO (hb _ s6 σ6 H6 _ I6 q6) λf s7 q7=>?_)
   have again:∀{σ7:St} {H7:Hp},Inv X (pins++xO fp s5.heap) σ7 H7 s7->N σ7 H7->∃m,m<n/\∃i σ' H',Inv X pins σ' H' s7/\tn i s7.heap/\(∀b∈fp,H' b=none)/\W i m σ' H':=λ{σ7 H7} I7 n7=>by
    obtain⟨m',hm,w7⟩:=hN σ7 H7 n7
    refine⟨m',hm,i+1,σ7,H7,I7.oJ,T.keep _ _ _ Bw λb hb o e=>(I7.pin (b,o) (List.mem_append_right _ (List.mem_append_right _ (uR hb e)))).1,λb hb=>?_,w7⟩
    obtain⟨o,e,d⟩:=T.obj _ _ Bw b hb
    exact(I7.pin (b,o) (List.mem_append_right _ (List.mem_append_right _ (uR hb e)))).2.1
   cases f with
   |next=>obtain⟨σ7,H7,I7,n7⟩:=q7;exact again I7 n7
   |cont=>obtain⟨σ7,H7,I7,n7⟩:=q7;exact again I7 n7
   |brk=>obtain⟨σ7,H7,I7,q7⟩:=q7;exact⟨σ7,H7,I7.oJ,q7⟩
   |ret v=>obtain⟨x7,σ7,H7,I7,r7,q7⟩:=q7;exact⟨x7,σ7,H7,I7.oJ,r7,q7⟩
end
theorem qH {K:PySem.W.Frag}{a:Addr}{xs:List V}{g:TG}{tb:TS}{D:Ends}{σ:St}{H:Hp}(Pv:Nat->St->Hp->Prop)(h0:Pv 0 σ H)(hl:∀i σ H,i<=xs.length->Pv i σ H->aq K H a xs)
 (hs:∀i x σ H,xs[i]? =some x->Pv i σ H->g x σ H λσ2 H2=>tb { D with nx:=Pv (i+1),ct:=Pv (i+1),bk:=D.nx } σ2 H2) (hd:∀σ H,Pv xs.length σ H->D.nx σ H):
 ∃W:Nat->Nat->St->Hp->Prop,(∃m,W 0 m σ H)/\∀i m σ H,W i m σ H->
  ((uO K a).stop i H/\D.nx σ H)\/((uO K a).go i H/\∃N:St->Hp->Prop,(∀σ' H',N σ' H'->∃m',m'<m/\W (i+1) m' σ' H')/\∀x H',(uO K a).mO i H x H'->g x σ H' λσ2 H2=>tb { D with nx:=N,ct:=N,bk:=D.nx } σ2 H2):=by
 refine⟨λi m σ H=>m=xs.length - i/\i<=xs.length/\Pv i σ H,⟨xs.length,by simp,Nat.zero_le _,h0⟩,?_⟩
 rintro i m σ H ⟨rfl,hi,p⟩
 have q:=hl i σ H hi p
 by_cases hlt:i<xs.length
 . refine .inr ⟨⟨xs,xs[i],q,by simp[hlt]⟩,Pv (i+1),λσ' H' p'=>⟨xs.length - (i+1),by omega,rfl,hlt,p'⟩,λx H' y=>?_⟩
   obtain⟨e,y⟩:=y
   subst e
   exact hs i x σ _ (y xs q) p
 . have e:i=xs.length:=by omega
   subst e
   exact .inl ⟨⟨xs,q,Nat.le_refl _⟩,hd σ H p⟩
theorem xQ {K:PySem.W.Frag}{a:Addr}{xs:List V}{g:TG}{tb:TS}{D:Ends}{σ:St}{H:Hp}(Pv:Nat->St->Hp->Prop)(h0:Pv 0 σ H)(hl:∀i σ H,i<=xs.length->Pv i σ H->aN K H a xs)
 (hs:∀i x σ H,xs[i]? =some x->Pv i σ H->g x σ H λσ2 H2=>tb { D with nx:=Pv (i+1),ct:=Pv (i+1),bk:=D.nx } σ2 H2) (hd:∀σ H,Pv xs.length σ H->D.nx σ H):
 ∃W:Nat->Nat->St->Hp->Prop,(∃m,W 0 m σ H)/\∀i m σ H,W i m σ H->
  ((uP K a).stop i H/\D.nx σ H)\/((uP K a).go i H/\∃N:St->Hp->Prop,(∀σ' H',N σ' H'->∃m',m'<m/\W (i+1) m' σ' H')/\∀x H',(uP K a).mO i H x H'->g x σ H' λσ2 H2=>tb { D with nx:=N,ct:=N,bk:=D.nx } σ2 H2):=by
 refine⟨λi m σ H=>m=xs.length - i/\i<=xs.length/\Pv i σ H,⟨xs.length,by simp,Nat.zero_le _,h0⟩,?_⟩
 rintro i m σ H ⟨rfl,hi,p⟩
 have q:=hl i σ H hi p
 by_cases hlt:i<xs.length
 . refine .inr ⟨⟨xs,xs[i],q,by simp[hlt]⟩,Pv (i+1),λσ' H' p'=>⟨xs.length - (i+1),by omega,rfl,hlt,p'⟩,λx H' y=>?_⟩
   obtain⟨e,y⟩:=y
   subst e
   exact hs i x σ _ (y xs q) p
 . have e:i=xs.length:=by omega
   subst e
   exact .inl ⟨⟨xs,q,Nat.le_refl _⟩,hd σ H p⟩
theorem uT {lo:Int}{n:Nat}{g:TG}{tb:TS}{D:Ends}{σ:St}{H:Hp}(Pv:Nat->St->Hp->Prop)(h0:Pv 0 σ H)
 (hs:∀i σ H,i<n->Pv i σ H->g (.int (lo+i)) σ H λσ2 H2=>tb { D with nx:=Pv (i+1),ct:=Pv (i+1),bk:=D.nx } σ2 H2) (hd:∀σ H,Pv n σ H->D.nx σ H):
 ∃W:Nat->Nat->St->Hp->Prop,(∃m,W 0 m σ H)/\∀i m σ H,W i m σ H->
  ((qG lo n).stop i H/\D.nx σ H)\/((qG lo n).go i H/\∃N:St->Hp->Prop,(∀σ' H',N σ' H'->∃m',m'<m/\W (i+1) m' σ' H')/\∀x H',(qG lo n).mO i H x H'->g x σ H' λσ2 H2=>tb { D with nx:=N,ct:=N,bk:=D.nx } σ2 H2):=by
 refine⟨λi m σ H=>m=n - i/\i<=n/\Pv i σ H,⟨n,by simp,Nat.zero_le _,h0⟩,?_⟩
 rintro i m σ H ⟨rfl,hi,p⟩
 by_cases hlt:i<n
 . refine .inr ⟨hlt,Pv (i+1),λσ' H' p'=>⟨n - (i+1),by omega,rfl,hlt,p'⟩,λx H' y=>?_⟩
   obtain⟨e,y⟩:=y
   subst e y
   exact hs i σ _ hlt p
 . have e:i=n:=by omega
   subst e
   exact .inl ⟨Nat.le_refl _,hd σ H p⟩
noncomputable abbrev R2:=V->V->Hp->VK->Prop
noncomputable def dJ (X:Cx) (f:Value->Value->Sem Value) (r:R2):Prop:=
 ∀(pins:List (Addr × Obj)) (s:Shared) (σ:St) (H:Hp) (x y:V) (v u:Value) (Q:VK),Inv X pins σ H s->RelV x v->RelV y u->r x y H Q->
  wpAny (model X.prog X.w) X.A (f v u) (EP X pins σ Q) X.xe s
noncomputable def eZ (X:Cx) (f:Value) (r:List V->Hp->VK->Prop):Prop:=
 ∀(pins:List (Addr × Obj)) (s:Shared) (σ:St) (H:Hp) (xs:List V) (us:List Value) (Q:VK),Inv X pins σ H s->Vals xs us->r xs H Q->
  wpAny (model X.prog X.w) X.A (call f us) (EP X pins σ Q) X.xe s
noncomputable def aat (X:Cx) (r:V->Hp->(Bool->Hp->Prop)->Prop):Prop:=
 ∀(pins:List (Addr × Obj)) (s:Shared) (σ:St) (H:Hp) (x:V) (v:Value) (Q:Bool->Hp->Prop),Inv X pins σ H s->RelV x v->r x H Q->
  wpAny (model X.prog X.w) X.A (truthy v) (TP X pins σ Q) X.xe s
noncomputable def jF (r:R2) (ta tb:TE):TE:=λσ H Q=>ta σ H λx H1=>tb σ H1 λy H2=>r x y H2 Q
noncomputable def rI (C:Int->Int->Prop) (g:Int->Int->V):R2:=λx y H Q=>∃i j,x=.int i/\y=.int j/\C i j/\Q (g i j) H
noncomputable def qI (g:Int->Int->V):R2:=λx y H Q=>∃i j,x=.int i/\y=.int j/\Q (g i j) H
section
variable {X:Cx}{a b c:Expr}{ta tb tc:TE}{pos:Pos}
theorem Bx (ha:PE X a ta)(hb:PE X b tb){pins:List (Addr × Obj)}{s:Shared}{σ:St}{H:Hp}{R:V->V->Hp->Prop}(I:Inv X pins σ H s)
 (h:ta σ H λx H1=>tb σ H1 λy H2=>R x y H2) {Q:Value->Shared->Prop} {f:Value->Value->Sem Value}
 (hf:∀v u s2 x y H2,Inv X pins σ H2 s2->RelV x v->RelV y u->R x y H2->wpAny (model X.prog X.w) X.A (f v u) Q X.xe s2):
 wpAny (model X.prog X.w) X.A (eval a X.env) (λv s₁=>wpAny (model X.prog X.w) X.A (eval b X.env) (λu s₂=>wpAny (model X.prog X.w) X.A (f v u) Q X.xe s₂) X.xe s₁) X.xe s:=by
 refine aO (ha pins s σ H _ I h) λv s1 ⟨x,H1,I1,r1,q1⟩=>?_
 refine aO (hb pins s1 σ H1 _ I1 q1) λu s2 ⟨y,H2,I2,r2,q2⟩=>?_
 exact hf v u s2 x y H2 I2 r1 r2 q2
theorem aL {op:Operator}{r:R2}(ho:dJ X (binaryOp op) r)(ha:PE X a ta)(hb:PE X b tb):PE X (.BinOp a op b pos) (jF r ta tb):=by
 intro pins s σ H Q I h
 exact wpAny_BinOp (Bx ha hb I h λv u s2 x y H2 I2 rx ry q=>ho pins s2 σ H2 x y v u Q I2 rx ry q)
theorem xR {f:Value->Value->Sem Value}{C:Int->Int->Prop}{g:Int->Int->Int}
 (rule:∀(i j:Int) (t u:Tok) (s:Shared) (Q:Value->Shared->Prop) (E:Value->Shared->Prop),C i j->Q (.int (g i j) s.toks) { s with toks:=s.toks+1 }->wpAny (model X.prog X.w) X.A (f (.int i t) (.int j u)) Q E s):
 dJ X f (rI C λi j=>.int (g i j)):=by
 intro pins s σ H x y v u Q I rx ry h
 obtain⟨i,j,rfl,rfl,hc,q⟩:=h
 obtain⟨t,rfl⟩:=rx
 obtain⟨t',rfl⟩:=ry
 exact rule i j t t' s _ _ hc ⟨.int (g i j),H,I.tok _,⟨_,rfl⟩,q⟩
theorem OD {f:Value->Value->Sem Value}{g:Int->Int->Int}
 (rule:∀(i j:Int) (t u:Tok) (s:Shared) (Q:Value->Shared->Prop) (E:Value->Shared->Prop),Q (.int (g i j) s.toks) { s with toks:=s.toks+1 }->wpAny (model X.prog X.w) X.A (f (.int i t) (.int j u)) Q E s):
 dJ X f (qI λi j=>.int (g i j)):=by
 intro pins s σ H x y v u Q I rx ry h
 obtain⟨i,j,rfl,rfl,q⟩:=h
 obtain⟨t,rfl⟩:=rx
 obtain⟨t',rfl⟩:=ry
 exact rule i j t t' s _ _ ⟨.int (g i j),H,I.tok _,⟨_,rfl⟩,q⟩
theorem BJ {f:Value->Value->Sem Value}{g:Int->Int->Bool}
 (rule:∀(i j:Int) (t u:Tok) (s:Shared) (Q:Value->Shared->Prop) (E:Value->Shared->Prop),Q (.bool (g i j)) s->wpAny (model X.prog X.w) X.A (f (.int i t) (.int j u)) Q E s):
 dJ X f (qI λi j=>.bl (g i j)):=by
 intro pins s σ H x y v u Q I rx ry h
 obtain⟨i,j,rfl,rfl,q⟩:=h
 obtain⟨t,rfl⟩:=rx
 obtain⟨t',rfl⟩:=ry
 exact rule i j t t' s _ _ ⟨.bl (g i j),H,I,rfl,q⟩
noncomputable def aau (i j:Int):Prop:=0<j/\j<1073741824
noncomputable def BK (i j:Int):Prop:=0<=j/\j<=1000000/\i.natAbs<2 ^ 64
noncomputable def BL (i j:Int):Prop:=(-(2 ^ 64)<i/\i<2 ^ 64)\/(-(2 ^ 64)<j/\j<2 ^ 64)
theorem BL.ok {i j:Int}(h:BL i j):IntMulOk i j:=by
 rcases h with⟨h1,h2⟩|⟨h1,h2⟩
 . exact .of_left (intBits_le_64 h1 h2)
 . exact .of_right (intBits_le_64 h1 h2)
theorem gC:dJ X (binaryOp .Add) (qI λi j=>.int (i+j)):=OD λ_ _ _ _ _ _ _ q=>add_int q
theorem mQ:dJ X (binaryOp .Sub) (qI λi j=>.int (i - j)):=OD λ_ _ _ _ _ _ _ q=>sub_int q
theorem mR:dJ X (binaryOp .Mult) (rI BL λi j=>.int (i * j)):=xR λ_ _ _ _ _ _ _ hc q=>mul_int q hc.ok
theorem gU:dJ X (binaryOp .FloorDiv) (rI aau λi j=>.int (i / j)):=xR λi j _ _ _ _ _ hc q=>by
 have h1:(0:Int)<j:=hc.1
 have h2:j<1073741824:=hc.2
 exact floordiv_int (by omega) (by rw[Int.fdiv_eq_ediv_of_nonneg i (by omega)];exact q) (.inl (PyProof.noPylong_small (by omega)))
theorem cH:dJ X (binaryOp .Mod) (rI (λ_ j=>0<j) λi j=>.int (i % j)):=xR λi j _ _ _ _ _ hc q=>by
 have h1:(0:Int)<j:=hc
 exact mod_int' (by omega) (by rw[Int.fmod_eq_emod_of_nonneg i (by omega)];exact q)
theorem xT:dJ X (binaryOp .Pow) (rI BK λi j=>.int (i ^ j.toNat)):=xR λ_ _ _ _ _ _ _ hc q=>pow_int_small hc.1 hc.2.1 hc.2.2 q
end
noncomputable def OJ:V->V->Bool
 | .non,.non=>true| .non,.int _=>true| .int _,.non=>true| .non,.bl _=>true| .bl _,.non=>true| .non,.str _=>true| .str _,.non=>true
 | .int _,.int _=>true| .bl _,.bl _=>true| .str _,.str _=>true| .jf _,.jf _=>true
 | .int _,.str _=>true| .str _,.int _=>true| .bl _,.str _=>true| .str _,.bl _=>true
 |_,_=>false
noncomputable def uU:R2:=λx y H Q=>OJ x y=true/\Q (.bl (decide (x=y))) H
noncomputable def rNe:R2:=λx y H Q=>OJ x y=true/\Q (.bl (!decide (x=y))) H
theorem O1 {i j:Int}:decide (V.int i=V.int j)=(i == j):=by
 rw[Bool.eq_iff_iff]
 simp
theorem O2 {i j:Bool}:decide (V.bl i=V.bl j)=(i == j):=by
 rw[Bool.eq_iff_iff]
 simp
theorem O3 {i j:Str}:decide (V.str i=V.str j)=(i == j):=by
 rw[Bool.eq_iff_iff]
 simp
theorem O4 {i j:Array UInt8}:decide (V.jf i=V.jf j)=(i.toList == j.toList):=by
 rw[Bool.eq_iff_iff]
 cases i
 cases j
 simp
section
variable {X:Cx}{a b c:Expr}{ta tb tc:TE}{pos:Pos}
theorem cO {pins:List (Addr × Obj)}{σ:St}{H:Hp}{s:Shared}{Q:VK}{k k':Bool}(I:Inv X pins σ H s)(q:Q (.bl k) H)(e:k=k'):EP X pins σ Q (.bool k') s:=by
 subst e
 exact⟨.bl k,H,I,rfl,q⟩
theorem bK:dJ X (compareOp .Eq) uU:=by
 intro pins s σ H x y v u Q I rx ry h
 obtain⟨hs,q⟩:=h
 cases x with
 |non=>
  cases rx
  cases y with
  |non=>cases ry;exact PySem.EqNone.eq_none_none (cO I q (by simp))
  |bl j=>cases ry;exact PySem.EqNone.eq_none_bool (cO I q (by simp))
  |int j=>obtain⟨t',rfl⟩:=ry;exact PySem.EqNone.eq_none_int (cO I q (by simp))
  |str j=>obtain⟨t',rfl⟩:=ry;exact PySem.EqNone.eq_none_str (cO I q (by simp))
  |_=>exact absurd (show false=true from hs) Bool.false_ne_true
 |bl i=>
  cases rx
  cases y with
  |non=>cases ry;exact PySem.EqNone.eq_bool_none (cO I q (by simp))
  |bl j=>cases ry;exact eq_bool (cO I q O2)
  |str j=>obtain⟨t',rfl⟩:=ry;exact PySem.EqMixed.eq_bool_str (cO I q (by simp))
  |_=>exact absurd (show false=true from hs) Bool.false_ne_true
 |int i=>
  obtain⟨t,rfl⟩:=rx
  cases y with
  |non=>cases ry;exact PySem.EqNone.eq_int_none (cO I q (by simp))
  |int j=>obtain⟨t',rfl⟩:=ry;exact eq_int (cO I q O1)
  |str j=>obtain⟨t',rfl⟩:=ry;exact PySem.EqMixed.eq_int_str (cO I q (by simp))
  |_=>exact absurd (show false=true from hs) Bool.false_ne_true
 |str i=>
  obtain⟨t,rfl⟩:=rx
  cases y with
  |non=>cases ry;exact PySem.EqNone.eq_str_none (cO I q (by simp))
  |bl j=>cases ry;exact PySem.EqMixed.eq_str_bool (cO I q (by simp))
  |int j=>obtain⟨t',rfl⟩:=ry;exact PySem.EqMixed.eq_str_int (cO I q (by simp))
  |str j=>obtain⟨t',rfl⟩:=ry;exact eq_str (cO I q O3)
  |_=>exact absurd (show false=true from hs) Bool.false_ne_true
 |jf i=>
  obtain⟨t,rfl⟩:=rx
  cases y with
  |jf j=>obtain⟨t',rfl⟩:=ry;exact W.eq_bytes (cO I q O4)
  |_=>exact absurd (show false=true from hs) Bool.false_ne_true
 |_=>cases y <;> exact absurd (show false=true from hs) Bool.false_ne_true
theorem jl:dJ X (compareOp .NotEq) rNe:=by
 intro pins s σ H x y v u Q I rx ry h
 obtain⟨hs,q⟩:=h
 cases x with
 |non=>
  cases rx
  cases y with
  |non=>cases ry;exact PySem.EqNone.ne_none_none (cO I q (by simp))
  |bl j=>cases ry;exact PySem.EqNone.ne_none_bool (cO I q (by simp))
  |int j=>obtain⟨t',rfl⟩:=ry;exact PySem.EqNone.ne_none_int (cO I q (by simp))
  |str j=>obtain⟨t',rfl⟩:=ry;exact PySem.EqNone.ne_none_str (cO I q (by simp))
  |_=>exact absurd (show false=true from hs) Bool.false_ne_true
 |bl i=>
  cases rx
  cases y with
  |non=>cases ry;exact PySem.EqNone.ne_bool_none (cO I q (by simp))
  |bl j=>cases ry;exact ne_bool (cO I q (congrArg not O2))
  |str j=>obtain⟨t',rfl⟩:=ry;exact PySem.EqMixed.ne_bool_str (cO I q (by simp))
  |_=>exact absurd (show false=true from hs) Bool.false_ne_true
 |int i=>
  obtain⟨t,rfl⟩:=rx
  cases y with
  |non=>cases ry;exact PySem.EqNone.ne_int_none (cO I q (by simp))
  |int j=>obtain⟨t',rfl⟩:=ry;exact ne_int (cO I q (congrArg not O1))
  |str j=>obtain⟨t',rfl⟩:=ry;exact PySem.EqMixed.ne_int_str (cO I q (by simp))
  |_=>exact absurd (show false=true from hs) Bool.false_ne_true
 |str i=>
  obtain⟨t,rfl⟩:=rx
  cases y with
  |non=>cases ry;exact PySem.EqNone.ne_str_none (cO I q (by simp))
  |bl j=>cases ry;exact PySem.EqMixed.ne_str_bool (cO I q (by simp))
  |int j=>obtain⟨t',rfl⟩:=ry;exact PySem.EqMixed.ne_str_int (cO I q (by simp))
  |str j=>obtain⟨t',rfl⟩:=ry;exact ne_str (cO I q (congrArg not O3))
  |_=>exact absurd (show false=true from hs) Bool.false_ne_true
 |jf i=>
  obtain⟨t,rfl⟩:=rx
  cases y with
  |jf j=>obtain⟨t',rfl⟩:=ry;exact W.ne_bytes (cO I q (congrArg not O4))
  |_=>exact absurd (show false=true from hs) Bool.false_ne_true
 |_=>cases y <;> exact absurd (show false=true from hs) Bool.false_ne_true
theorem O5:dJ X (compareOp .Lt) (qI λi j=>.bl (decide (i<j))):=BJ λ_ _ _ _ _ _ _ q=>lt_int q
theorem aaw:dJ X (compareOp .LtE) (qI λi j=>.bl (decide (i<=j))):=BJ λ_ _ _ _ _ _ _ q=>le_int q
theorem rR:dJ X (compareOp .Gt) (qI λi j=>.bl (decide (j<i))):=BJ λ_ _ _ _ _ _ _ q=>gt_int q
theorem aax:dJ X (compareOp .Is) (λx y H Q=>y=.non/\Q (.bl (decide (x=.non))) H):=by
 intro pins s σ H x y v u Q I rx ry h
 obtain⟨rfl,q⟩:=h
 cases ry
 refine is_none_gen (cO I q ?_)
 cases x <;> first
  |(cases rx;rfl)
  |(obtain⟨t,rfl⟩:=rx;rfl)
theorem rT:dJ X (compareOp .IsNot) (λx y H Q=>y=.non/\Q (.bl (!decide (x=.non))) H):=by
 intro pins s σ H x y v u Q I rx ry h
 obtain⟨rfl,q⟩:=h
 cases ry
 refine isnot_none_gen (cO I q ?_)
 cases x <;> first
  |(cases rx;rfl)
  |(obtain⟨t,rfl⟩:=rx;rfl)
theorem aQ (b:Expr){op:CmpOp}(h:op≠ .In:=by decide)(h2:op≠ .NotIn:=by decide):behindInMarks op b=false:=by
 have e1:(op == CmpOp.In)=false:=by cases op <;> first|rfl|exact absurd rfl h
 have e2:(op == CmpOp.NotIn)=false:=by cases op <;> first|rfl|exact absurd rfl h2
 cases b <;> simp[behindInMarks,e1,e2]
theorem qJ {op:CmpOp}{r:R2}(ho:dJ X (compareOp op) r)(ha:PE X a ta)(hb:PE X b tb)(hm:behindInMarks op b=false):PE X (.Compare a [op] [b] pos) (jF r ta tb):=by
 intro pins s σ H Q I h
 exact wpAny_Compare1 (Bx ha hb I h λv u s2 x y H2 I2 rx ry q=>ho pins s2 σ H2 x y v u Q I2 rx ry q) hm
noncomputable def uV (t:TE):TT:=λσ H Q=>t σ H λx H'=>∃k,x=.bl k/\Q k H'
theorem aU {op:CmpOp}{r:R2}(ho:dJ X (compareOp op) r)(ha:PE X a ta)(hb:PE X b tb)(hm:behindInMarks op b=false):PT X (.Compare a [op] [b] pos) (uV (jF r ta tb)):=by
 intro pins s σ H Q I h
 refine wpAny_isTrue_Compare1 (aO (ha pins s σ H _ I h) λv s1 ⟨x,H1,I1,r1,q1⟩=>aO (hb pins s1 σ H1 _ I1 q1) λu s2 ⟨y,H2,I2,r2,q2⟩=>
  aO (ho pins s2 σ H2 x y v u _ I2 r1 r2 q2) λc s3 ⟨z,H3,I3,r3,k,e,q3⟩=>?_) hm
 subst e
 cases r3
 exact wpAny_truthy_bool ⟨H3,I3,q3⟩
noncomputable def O6 (K:W.Frag) (x:V) (H:Hp) (k:Bool):Prop:=
 match x with
 | .non=>k=false
 | .bl b=>k=b
 | .int i=>k=(i != 0)
 | .str y=>y.length<=sizeLine/\k=((y.length:Int) != 0)
 | .jf y=>y.size<=sizeLine/\k=((y.size:Int) != 0)
 | .ref p=>(∃xs,aq K H p xs/\k= !xs.isEmpty)\/(∃xs,aN K H p xs/\k= !xs.isEmpty)\/∃kvs,H p=some (.dK kvs)/\k= !kvs.isEmpty
 |_=>False
theorem aay {κ:Type}{kvs:List (κ × V)}{vs:List (κ × Value)}(r:KV kvs vs):(!vs.isEmpty)= !kvs.isEmpty:=by
 cases r <;> rfl
theorem O7 {xs:List V}{its:List Value}(r:Vals xs its):(!its.toArray.isEmpty)= !xs.isEmpty:=by
 cases r <;> simp
theorem qK:(sizeLine:Nat)<2 ^ 63:=by rw[sizeLine_eq];decide
theorem aaz:aat X (λx H Q=>∃k,O6 X.K x H k/\Q k H):=by
 intro pins s σ H x v Q I rx h
 obtain⟨k,e,q⟩:=h
 have hl:=qK
 have hs:sizeLine=16777216:=sizeLine_eq
 cases x with
 |non=>
  cases rx
  have e':k=false:=e
  subst e'
  exact truthy_none ⟨H,I,q⟩
 |bl b=>
  cases rx
  have e':k=b:=e
  subst e'
  exact wpAny_truthy_bool ⟨H,I,q⟩
 |int i=>
  obtain⟨t,rfl⟩:=rx
  have e':k=(i != 0):=e
  subst e'
  exact PySem.P.truthy_int ⟨H,I,q⟩
 |str y=>
  obtain⟨t,rfl⟩:=rx
  obtain⟨hy,e'⟩:y.length<=sizeLine/\k=((y.length:Int) != 0):=e
  subst e'
  exact PySem.P.truthy_str (by omega) ⟨H,I.tok _,q⟩
 |jf y=>
  obtain⟨t,rfl⟩:=rx
  obtain⟨hy,e'⟩:y.size<=sizeLine/\k=((y.size:Int) != 0):=e
  subst e'
  exact W.truthy_bytes (by omega) ⟨H,I.tok _,q⟩
 |ref p=>
  cases rx
  have e':(∃xs,aq X.K H p xs/\k= !xs.isEmpty)\/(∃xs,aN X.K H p xs/\k= !xs.isEmpty)\/∃kvs,H p=some (.dK kvs)/\k= !kvs.isEmpty:=e
  rcases e' with⟨xs,hx,e'⟩|⟨xs,hx,e'⟩|⟨kvs,hx,e'⟩
  . subst e'
    obtain⟨its,r,pl,hz⟩:=I.list hx
    have hlen:=r.length
    exact wpAny_truthy_list pl.isList (by simp only[List.size_toArray];omega) ⟨H,I.tok _,by rw[O7 r];exact q⟩
  . subst e'
    obtain⟨its,r,pl,hz⟩:=I.tuple hx
    have hlen:=r.length
    exact truthy_tuple pl (by simp only[List.size_toArray];omega) ⟨H,I.tok _,by rw[O7 r];exact q⟩
  . subst e'
    obtain⟨hz,hS,vs,r,m⟩:kvs.length<=sizeLine/\(p == sysModules)=false/\∃vs,KV kvs vs/\s.heap.DictOf (cQ X.prog X.w) p vs:=I.hok p _ hx
    have hlen:kvs.length=vs.length:=Paired.length r
    exact wpAny_truthy_dict hS m (by omega) ⟨H,I.tok _,by rw[aay r];exact q⟩
 |_=>exact(show False from e).elim
theorem uW:dJ X (binaryOp .Add) (λx y H Q=>∃i j,x=.str i/\y=.str j/\i.length+j.length<=sizeLine/\Q (.str (i++j)) H):=by
 intro pins s σ H x y v u Q I rx ry h
 obtain⟨i,j,rfl,rfl,hz,q⟩:=h
 obtain⟨t,rfl⟩:=rx
 obtain⟨t',rfl⟩:=ry
 exact add_str (λt' tk=>⟨.str (i++j),H,I.tok _,⟨_,rfl⟩,q⟩) hz
theorem vals1 {x:V}{us:List Value}(r:Vals [x] us):∃u,us=[u]/\RelV x u:=by
 cases r with
 |cons r1 r2=>cases r2;exact⟨_,rfl,r1⟩
theorem vals2 {x y:V}{us:List Value}(r:Vals [x,y] us):∃u w',us=[u,w']/\RelV x u/\RelV y w':=by
 cases r with
 |cons r1 r2=>
  cases r2 with
  |cons r3 r4=>cases r4;exact⟨_,_,rfl,r1,r3⟩
theorem O8 (hc:X.calm=true):eZ X (.builtin "min") (λxs H Q=>∃i j,xs=[.int i,.int j]/\Q (.int (if j<i then j else i)) H):=by
 intro pins s σ H xs us Q I r h
 obtain⟨i,j,rfl,q⟩:=h
 obtain⟨u,w',rfl,⟨t,rfl⟩,⟨t',rfl⟩⟩:=vals2 r
 refine min_two_ints (I.ok.hd hc) λh' tk k=>⟨_,H,I.kept k,?_,q⟩
 by_cases hj:j<i
 . rw[if_pos hj,if_pos hj];exact⟨_,rfl⟩
 . rw[if_neg hj,if_neg hj];exact⟨_,rfl⟩
end
structure qL (h:Heap) (x dx C:Addr) (mA:Str->Option Value):Prop where
 obj:h.get? x=some (W.instObj C dx)
 ns:h.Ns1 dx mA
 ne:dx≠x
theorem aaA {h:Heap}{dx:Addr}{mA:Str->Option Value}(n:h.Ns1 dx mA):∃od,h.get? dx=some od/\∀name,W.lookIn name od=some (mA name):=by
 obtain⟨o,es,ep,ho,hd,hk,_,hm⟩:=n
 refine⟨o,ho,λname=>?_⟩
 have e:=hm name
 unfold nsFind findBy at e
 rw[<-Array.find?_toList] at e
 unfold W.lookIn
 rw[hd]
 dsimp only
 split
 . rename_i y q
   rw[q] at e
   exact congrArg some e
 . rename_i q
   rw[q] at e
   have a:es.toList.any (·.refKey)=false:=by
    rw[List.any_eq_false]
    intro y hy
    obtain⟨z,t,hkey⟩:=hk y (Array.mem_toList_iff.mp hy)
    simp[DictEntry.refKey,hkey]
   have a':¬es.toList.any (·.refKey)=true:=by rw[a];exact Bool.false_ne_true
   rw[if_neg a']
   exact congrArg some e
theorem qL.look {h:Heap}{x dx C:Addr}{mA:Str->Option Value}(I:qL h x dx C mA):∃od,W.InstAt h x (W.instObj C dx) C (some od)/\∀name,W.lookIn name od=some (mA name):=
 let⟨od,ho,hl⟩:=aaA I.ns
 ⟨od,⟨I.obj,rfl,rfl,ho⟩,hl⟩
section
variable {prog:Program}{w:World}{A:Around}{E:Value->Shared->Prop}{s:Shared}{K:W.Frag}{x dx C f:Addr}{mA:Str->Option Value}{name:Str}{v:Value}
theorem get_map {expr:Bool}{Q:Value->Shared->Prop}(X:K.In s.heap)(I:qL s.heap x dx C mA)(hg:W.plainGet K C name=true)(hh:W.hasDictIn K C=true)
 (ha:W.findIn K (.ref C) name=some none) (hv:mA name=some v) (hv':W.handedIn v=true) (h:Q v { s with toks:=s.toks+1 }):
 wpAny (model prog w) A (getAttr (.ref x) name expr) Q E s:=by
 obtain⟨od,J,hl⟩:=I.look
 exact W.get_value X J (W.plainGet_of hg).1 (W.findObj_own hh ha rfl (by rw[hl,hv])) hv' h
theorem aaB {pl:Sem Bool}{Q:Value × List Value->Shared->Prop}(X:K.In s.heap)(I:qL s.heap x dx C mA)(hg:W.plainGet K C name=true)
 (hf:W.findIn K (.ref C) name=some (some (.ref f))) (ht:W.isFn K (.ref f)=true) (hv:mA name=none) (h:Q (.ref f,[.ref x]) s):
 wpAny (model prog w) A (getMethod (.ref x) name pl) Q E s:=by
 obtain⟨od,J,hl⟩:=I.look
 exact W.method_fn X J (W.plainGet_of hg).1 (W.plainGet_of hg).2 hf (beq_iff_eq.mp ht) (by show(W.lookIn name od).map (·.isSome)=some false;rw[hl,hv];rfl) h
theorem aaC {ns:List Str}{Q:Unit->Shared->Prop}(X:K.In s.heap)(I:qL s.heap x dx C mA)
 (hs:W.findIn K (.ref C) "__setattr__"=some (some (.builtin "object.__setattr__"))) (hp:W.plainOver K C=true) (ht:W.takerIn K C name=some none) (hh:W.hasDictIn K C=true)
 (hw:PySem.Within mA ns) (hsz:ns.length<=sizeLine)
 (h:∀h',qL h' x dx C (λy=>if y=name then some v else mA y)->Heap.SameBut dx s.heap h'->Q () { s with heap:=h',toks:=s.toks+2 }):
 wpAny (model prog w) A (setAttr (.ref x) name v) Q E s:=by
 obtain⟨od,J,hl⟩:=I.look
 refine W.set_plain X J hs (W.osa_open (s:={ s with toks:=s.toks+1 }) (r:=none) X J hp ht λb=>?_)
 obtain⟨cd,hc,hd'⟩:=W.any_some hh
 have hx:s.heap.get? x=some ⟨.ref C,some dx,.plain,#[]⟩:=I.obj
 refine wpAny_bind (wpAny_pure (wpAny_bind (wpAny_bind (wpAny_loadPart hx (wpAny_bind (W.Looks.here (s:={ s with toks:=s.toks+1 }) (W.looks_clsIn X hc) ?_))))))
 rw[hd']
 refine wpAny_pure (a:=some dx) (wpAny_bind (wpAny_pure (wpAny_bind ?_)))
 refine wpAny_nsSet1 (s:={ s with toks:=s.toks+1 }) I.ns λh' hn2 hs2=>?_
 obtain⟨oD,esD,epD,hoD,hdD,hcD⟩:=hn2.count (PySem.Within.cons name v hw)
 refine wpAny_bind (wpAny_lookBehind hoD (by rw[hdD];exact pastItsLine_dict (Nat.le_trans hcD (by rw[List.length_cons];omega))) ?_)
 exact wpAny_pure (h _ ⟨(hs2.2 _ (Ne.symm I.ne)).trans I.obj,hn2,I.ne⟩ hs2)
theorem aaD {R:Result->Shared->Prop}{vs:List Value}{kw:List (Str × Value)}(X:K.In s.heap)(hm:W.makesIn K C=true)
 (hi:W.findIn K (.ref C) "__init__"=some (some (.ref f))) (hf:W.typeIn K (.ref f)=some (.type "function"))
 (h:codeAny (model prog w) (A.under (.builtin "type.__call__" ⟨.ref C::vs,kw⟩)) (.call (.ref f) ⟨.ref (s.heap.objs.size+1)::vs,kw⟩) (W.InitBack (s.heap.objs.size+1) R)
   { s with heap:=(s.heap.push W.emptyDict).push (W.instObj C s.heap.objs.size) }):
 codeAny (model prog w) A (.call (.ref C) ⟨vs,kw⟩) R s:=by
 obtain⟨hh,g,d,t,os⟩:=s
 exact W.make_core (W.makes_of X hm) (W.looks_findIn X hi) (λself=>W.bind_fn X self hf) (.inl rfl) h
end
noncomputable def iD (f:Str) (v:V):List (Str × V)->List (Str × V)
 |[]=>[(f,v)]
 |(g,x)::r=>if g=f then(g,v)::r else(g,x)::iD f v r
theorem O9 (f g:Str)(v:V):∀fs:List (Str × V),(iD f v fs).lookup g=if g=f then some v else fs.lookup g
 |[]=>by
  show List.lookup g [(f,v)]=_
  by_cases h:g=f
  . have hb:(g == f)=true:=beq_iff_eq.mpr h
    simp only[List.lookup,hb,if_pos h]
  . have hb:(g == f)=false:=beq_eq_false_iff_ne.mpr h
    simp only[List.lookup,hb,if_neg h]
 |(k,x)::r=>by
  have ih:=O9 f g v r
  rw[show iD f v ((k,x)::r)=(if k=f then(k,v)::r else(k,x)::iD f v r) from rfl]
  by_cases hk:k=f
  . rw[if_pos hk]
    by_cases h:g=k
    . have hb:(g == k)=true:=beq_iff_eq.mpr h
      simp only[List.lookup,hb,if_pos (h.trans hk)]
    . have hb:(g == k)=false:=beq_eq_false_iff_ne.mpr h
      simp only[List.lookup,hb,if_neg (λe:g=f=>h (e.trans hk.symm))]
  . rw[if_neg hk]
    by_cases h:g=k
    . have hb:(g == k)=true:=beq_iff_eq.mpr h
      simp only[List.lookup,hb,if_neg (λe:g=f=>hk (h.symm.trans e))]
    . have hb:(g == k)=false:=beq_eq_false_iff_ne.mpr h
      simp only[List.lookup,hb]
      exact ih
theorem BP (f:Str)(v:V):∀fs:List (Str × V),f∈(iD f v fs).map (·.1)/\∀g,g∈fs.map (·.1)->g∈(iD f v fs).map (·.1)
 |[]=>⟨by simp[iD],λg h=>by simp at h⟩
 |(k,x)::r=>by
  obtain⟨i1,i2⟩:=BP f v r
  rw[show iD f v ((k,x)::r)=(if k=f then(k,v)::r else(k,x)::iD f v r) from rfl]
  by_cases hk:k=f
  . rw[if_pos hk]
    subst hk
    exact⟨by simp,λg h=>by simpa using h⟩
  . rw[if_neg hk]
    refine⟨?_,λg h=>?_⟩
    . rw[List.map_cons]
      exact List.mem_cons_of_mem _ i1
    . rw[List.map_cons] at h ⊢
      rcases List.mem_cons.mp h with e|e
      . exact List.mem_cons.mpr (.inl e)
      . exact List.mem_cons_of_mem _ (i2 g e)
theorem O_ (f:Str)(v:V):∀fs:List (Str × V),(iD f v fs).length<=fs.length+1
 |[]=>by simp[iD]
 |(k,x)::r=>by
  have ih:=O_ f v r
  rw[show iD f v ((k,x)::r)=(if k=f then(k,v)::r else(k,x)::iD f v r) from rfl]
  by_cases hk:k=f
  . rw[if_pos hk,List.length_cons,List.length_cons];omega
  . rw[if_neg hk,List.length_cons,List.length_cons];omega
theorem gA.some_of {v:V}{o:Option Value}(r:gA (some v) o):∃u,o=some u/\RelV v u:=by
 cases o with
 |none=>exact(show False from r).elim
 |some u=>exact⟨u,rfl,r⟩
theorem gA.none_of {o:Option Value}(r:gA none o):o=none:=by
 cases o with
 |none=>rfl
 |some u=>exact(show False from r).elim
theorem Pa {v:V}{u:Value}(r:RelV v u):W.handedIn u=true:=by
 cases v with
 |non=>cases(show u=Value.none from r);rfl
 |bl b=>cases(show u=Value.bool b from r);rfl
 |int i=>obtain⟨t,e⟩:=(show ∃t,u=Value.int i t from r);cases e;rfl
 |str x=>obtain⟨t,e⟩:=(show ∃t,u=Value.str x t from r);cases e;rfl
 |jf b=>obtain⟨t,e⟩:=(show ∃t,u=Value.bytes b t from r);cases e;rfl
 |flt b=>obtain⟨t,e⟩:=(show ∃t,u=Value.float b t from r);cases e;rfl
 |ref a=>cases(show u=Value.ref a from r);rfl
 |ty n=>cases(show u=Value.type n from r);rfl
section
variable {P:Program}{w:World}{H H':Hp}{h h':Heap}{a C dx:Addr}{fs fs':List (Str × V)}
theorem xU (hok:cF P w H h)(e:H a=some (.ins C dx fs)):∃mA,qL h a dx C mA/\(∀f,gA (fs.lookup f) (mA f))/\PySem.Within mA (fs.map (·.1))/\fs.length<=1000/\H dx=some (.own a):=by
 obtain⟨d,z,ne,ob,mA,n,r,q⟩:=(show cM P w H h a (.ins C dx fs) from hok a _ e)
 exact⟨mA,⟨ob,n,ne⟩,r,q,z,d⟩
end
structure Cls (K:W.Frag) (C:Addr):Prop where
 pg:W.plainGet K C Str.empty=true
 hd:W.hasDictIn K C=true
 po:W.plainOver K C=true
 sa:W.findIn K (.ref C) "__setattr__"=some (some (.builtin "object.__setattr__"))
theorem Cls.get {K:W.Frag}{C:Addr}(c:Cls K C)(f:Str):W.plainGet K C f=true:=c.pg
noncomputable def mU (K:W.Frag) (C:Addr) (f:Str):Prop:=W.findIn K (.ref C) f=some none
theorem mU.taker {K:W.Frag}{C:Addr}{f:Str}(n:mU K C f):W.takerIn K C f=some none:=by
 unfold W.takerIn
 rw[show W.findIn K (.ref C) f=some none from n]
 rfl
structure Meth (K:W.Frag) (C:Addr) (m:Str) (f:Addr):Prop where
 at_:W.findIn K (.ref C) m=some (some (.ref f))
 fn:W.isFn K (.ref f)=true
 kp:W.keepIn K (.ref f)=true
section
variable {X:Cx}{pins:List (Addr × Obj)}{σ:St}{H:Hp}{s:Shared}{a C dx:Addr}{fs:List (Str × V)}{f:Str}{v:V}{A:Around}{E:Value->Shared->Prop}
theorem aaE {b:Bool}{Q:Value->Shared->Prop}(I:Inv X pins σ H s)(e:H a=some (.ins C dx fs))(c:Cls X.K C)(n:mU X.K C f)(l:fs.lookup f=some v)
 (h:∀u s',Inv X pins σ H s'->RelV v u->Q u s'):wpAny (model X.prog X.w) A (getAttr (.ref a) f b) Q E s:=by
 obtain⟨mA,O,r,_,_,_⟩:=xU I.hok e
 obtain⟨u,hu,ru⟩:=gA.some_of (v:=v) (o:=mA f) (by rw[<-l];exact r f)
 exact get_map I.cN O (c.get f) c.hd n hu (Pa ru) (h u _ (I.tok _) ru)
theorem Pg {m:Str}{g:Addr}{pl:Sem Bool}{Q:Value × List Value->Shared->Prop}(I:Inv X pins σ H s)(e:H a=some (.ins C dx fs))(c:Cls X.K C)(k:Meth X.K C m g)(l:fs.lookup m=none)
 (h:Q (.ref g,[.ref a]) s):wpAny (model X.prog X.w) A (getMethod (.ref a) m pl) Q E s:=by
 obtain⟨mA,O,r,_,_,_⟩:=xU I.hok e
 have hn:mA m=none:=gA.none_of (by rw[<-l];exact r m)
 exact aaB I.cN O (c.get m) k.at_ k.fn hn h
theorem aaF {y:V}{u:Value}{Q:Unit->Shared->Prop}(I:Inv X pins σ H s)(e:H a=some (.ins C dx fs))(c:Cls X.K C)(n:mU X.K C f)(hl:fs.length<1000)(ry:RelV y u)
 (h:∀s',Inv X pins σ (upd H a (.ins C dx (iD f y fs))) s'->Q () s'):wpAny (model X.prog X.w) A (setAttr (.ref a) f u) Q E s:=by
 obtain⟨mA,O,r,wi,_,ho⟩:=xU I.hok e
 have hz:(fs.map (·.1)).length<=sizeLine:=by rw[List.length_map,sizeLine_eq];omega
 refine aaC I.cN O c.sa c.po n.taker c.hd wi hz λh' O' sb=>h _ ?_
 have hd:∃o,h'.get? dx=some o:=let⟨o,_,_,e',_⟩:=O'.ns;⟨o,e'⟩
 refine I.write (x:=a) (e:=dx) (by rw[e];exact True.intro) (.inr ho) (λb q hb z=>(sb.2 b hb).trans z) hd ?_
 refine⟨by rw[au O.ne];exact ho,?_,O.ne,O'.obj,_,O'.ns,λg=>?_,λg hg=>?_⟩
 . have:=O_ f y fs;omega
 . show gA ((iD f y fs).lookup g) (if g=f then some u else mA g)
   rw[O9]
   by_cases q:g=f
   . rw[if_pos q,if_pos q];exact ry
   . rw[if_neg q,if_neg q];exact r g
 . by_cases q:g=f
   . rw[q];exact(BP f y fs).1
   . refine(BP f y fs).2 g (wi g λz=>hg ?_)
     show(if g=f then some u else mA g)=none
     rw[if_neg q];exact z
theorem Inv.made (I:Inv X pins σ H s):Inv X pins σ (upd (upd H s.heap.objs.size (.own (s.heap.objs.size+1))) (s.heap.objs.size+1) (.ins C s.heap.objs.size []))
 { s with heap:=(s.heap.push W.emptyDict).push (W.instObj C s.heap.objs.size) }:=by
 have e1:(s.heap.push W.emptyDict).get? s.heap.objs.size=some W.emptyDict:=Heap.get?_push_size s.heap rfl
 have e2:((s.heap.push W.emptyDict).push (W.instObj C s.heap.objs.size)).get? (s.heap.objs.size+1)=some (W.instObj C s.heap.objs.size):=by
  have:=Heap.get?_push_size (s.heap.push W.emptyDict) (o:=W.instObj C s.heap.objs.size) rfl
  rwa [Heap.size_push] at this
 have e3:(s.heap.push W.emptyDict).Ns s.heap.objs.size (λ_=>none):=⟨W.emptyDict,#[],_,e1,rfl,(λe he=>absurd he (by simp)),λ_=>rfl⟩
 have I1:=I.laid (a:=s.heap.objs.size) (o:=.own (s.heap.objs.size+1)) (h':=s.heap.push W.emptyDict) (t':=s.toks) (λb u q=>Heap.get?_push_of_some _ q) (Nat.le_refl _) ⟨_,e1⟩
 refine I1.laid (a:=s.heap.objs.size+1) (o:=.ins C s.heap.objs.size []) (t':=s.toks) (λb u q=>Heap.get?_push_of_some _ q) (Nat.le_of_eq (Heap.size_push _ _)) ?_
 have ne:s.heap.objs.size≠s.heap.objs.size+1:=Nat.ne_of_lt (Nat.lt_succ_self _)
 refine⟨by rw[au ne,aD],Nat.zero_le _,ne,e2,λ_=>none,(Heap.Ns1.of_empty e3).at λo q=>Heap.get?_push_of_some _ q,λ_=>True.intro,λy hy=>absurd rfl hy⟩
theorem Ph {prog:Program}{w:World}{env:Env}{e:Expr}{f:Str}{pos:Pos}{s:Shared}{Q:Value->Shared->Prop}(hb:attributeBase e f env (eval e env)=eval e env)
 (h:wpAny (model prog w) A (eval e env) (λo s₁=>wpAny (model prog w) A (getAttr o f true) Q E s₁) E s):wpAny (model prog w) A (eval (.Attribute e f pos) env) Q E s:=
 Attribute_any_ h (by rw[arm_eval_Attribute,hb])
end
noncomputable def aaG (K:W.Frag) (ta:TE) (f:Str):TE:=λσ H Q=>ta σ H λx H1=>∃a C dx fs v,x=.ref a/\H1 a=some (.ins C dx fs)/\Cls K C/\mU K C f/\fs.lookup f=some v/\Q v H1
noncomputable def aaH (K:W.Frag) (ta tv:TE) (f:Str):TS:=λD σ H=>tv σ H λy H1=>ta σ H1 λx H2=>∃a C dx fs,x=.ref a/\H2 a=some (.ins C dx fs)/\Cls K C/\mU K C f/\fs.length<1000/\
 D.nx σ (upd H2 a (.ins C dx (iD f y fs)))
section
variable {X:Cx}{o e value:Expr}{f:Str}{pos pos' tpos:Pos}{ta tv:TE}
theorem gD (he:PE X e ta)(hb:attributeBase e f X.env (eval e X.env)=eval e X.env):PE X (.Attribute e f pos) (aaG X.K ta f):=by
 intro pins s σ H Q I h
 refine Ph hb (aO (he pins s σ H _ I h) λu s1 ⟨x,H1,I1,rx,a,C,dx,fs,v,ex,ea,c,n,l,q⟩=>?_)
 subst ex
 obtain rfl:u=Value.ref a:=rx
 exact aaE I1 ea c n l λu' s2 I2 ru=>⟨v,H1,I2,ru,q⟩
theorem BR (ha:PE X o ta)(hv:PE X value tv)(hs:swapsWith value (some (.Attribute o f pos')) pos.line X.env=pure false):PS X (.Assign [.Attribute o f pos'] value pos) (aaH X.K ta tv f):=by
 intro pins s σ H D I h
 refine plainObj_wpAny_Assign_Attribute (aO (hv pins s σ H _ I h) λu s1 ⟨y,H1,I1,ry,q⟩=>aO (ha pins s1 σ H1 _ I1 q) λov s2 ⟨x,H2,I2,rx,a,C,dx,fs,ex,ea,c,n,l,q2⟩=>?_) hs
 subst ex
 obtain rfl:ov=Value.ref a:=rx
 exact aaF I2 ea c n l ry λs3 I3=>⟨σ,_,I3,q2⟩
end
section
variable {X:Cx}{pins:List (Addr × Obj)}{σ:St}{H:Hp}{s:Shared}{A:Around}{E:Value->Shared->Prop}{Q:Value->Shared->Prop}{c:Value}{b:Bool}
inductive jm (K:W.Frag) (H:Hp):V->Value->Prop where
 |non:jm K H .non (.type "NoneType")
 |bl (x:Bool):jm K H (.bl x) (.type "bool")
 |int (i:Int):jm K H (.int i) (.type "int")
 |str (x:Str):jm K H (.str x) (.type "str")
 |flt (x:UInt64):jm K H (.flt x) (.type "float")
 |lst {a:Addr} {xs:List V} (e:H a=some (.lst xs)):jm K H (.ref a) (.type "list")
 |iB {a:Addr} {o:Obj} {xs:List V} (e:H a=some (.iB o (.lst xs))):jm K H (.ref a) (.type "list")
 |tup {a:Addr} {xs:List V} (e:H a=some (.tup xs)):jm K H (.ref a) (.type "tuple")
 |dK {a:Addr} {kvs:List (Key × V)} (e:H a=some (.dK kvs)):jm K H (.ref a) (.type "dict")
 |dT {a:Addr} {kvs:List (List Key × V)} (e:H a=some (.dT kvs)):jm K H (.ref a) (.type "dict")
 |ins {a C dx:Addr} {fs:List (Str × V)} (e:H a=some (.ins C dx fs)) (cl:Cls K C) (ha:W.findIn K (.ref C) "__class__"=some (some (.builtin "object.__class__")))
   (hn:W.specialIn K (.builtin "object.__class__") "__get__"=some (some (.builtin "getset_descriptor.__get__"))) (htk:W.takesIn K (.builtin "object.__class__")=some true)
   (hm:W.mroIn K C (.type "object")=some true):jm K H (.ref a) (.ref C)
theorem aaI {x:V}{u t:Value}(I:Inv X pins σ H s)(rx:RelV x u)(ty:jm X.K H x t)(e:W.kitOne X.K t c=some b)(h:∀tk,Q (.bool b) { s with toks:=tk }):
 wpAny (model X.prog X.w) A (call (.builtin "isinstance") [u,c]) Q E s:=by
 cases ty with
 |non=>cases(show u=Value.none from rx);exact W.kia_one W.kitx_none I.cN True.intro e (λz=>nomatch z) h
 |bl y=>cases(show u=Value.bool y from rx);exact W.kia_one W.kitx_bool I.cN True.intro e (λz=>nomatch z) h
 |int i=>obtain⟨t,q⟩:=(show ∃t,u=Value.int i t from rx);cases q;exact W.kia_one W.kitx_int I.cN True.intro e (λz=>nomatch z) h
 |str y=>obtain⟨t,q⟩:=(show ∃t,u=Value.str y t from rx);cases q;exact W.kia_one W.kitx_str I.cN True.intro e (λz=>nomatch z) h
 |flt y=>obtain⟨t,q⟩:=(show ∃t,u=Value.float y t from rx);cases q;exact W.kia_one W.kitx_float I.cN True.intro e (λz=>nomatch z) h
 |@lst a xs ea=>
  cases(show u=Value.ref a from rx)
  obtain⟨_,_,n,_,h1⟩:=(show cM X.prog X.w H s.heap a (.lst xs) from I.hok a _ ea)
  exact W.kia_one W.kitx_list I.cN ⟨_,h1,rfl⟩ e (λz=>nomatch z) h
 |@iB a ob xs ea=>
  cases(show u=Value.ref a from rx)
  obtain⟨_,_,_,n,_,h1⟩:=(show cM X.prog X.w H s.heap a (.iB ob (.lst xs)) from I.hok a _ ea)
  exact W.kia_one W.kitx_list I.cN ⟨_,h1,rfl⟩ e (λz=>nomatch z) h
 |@tup a xs ea=>
  cases(show u=Value.ref a from rx)
  obtain⟨_,_,_,p⟩:=(show cM X.prog X.w H s.heap a (.tup xs) from I.hok a _ ea)
  obtain⟨o,h1,h2,_⟩:=p
  exact W.kia_one W.kitx_tuple I.cN ⟨o,h1,h2⟩ e (λz=>nomatch z) h
 |@dK a kvs ea=>
  cases(show u=Value.ref a from rx)
  obtain⟨_,_,vs,_,p⟩:=(show cM X.prog X.w H s.heap a (.dK kvs) from I.hok a _ ea)
  obtain⟨o,es,ep,h1,h2,_⟩:=p
  exact W.kia_one W.kitx_dict I.cN ⟨o,h1,h2.1⟩ e (λz=>nomatch z) h
 |@dT a kvs ea=>
  cases(show u=Value.ref a from rx)
  obtain⟨_,_,xs,_,o,es,ep,h1,h2,_⟩:=(show cM X.prog X.w H s.heap a (.dT kvs) from I.hok a _ ea)
  exact W.kia_one W.kitx_dict I.cN ⟨o,h1,h2.1⟩ e (λz=>nomatch z) h
 |@ins a C dx fs ea cl ha hn htk hm=>
  cases(show u=Value.ref a from rx)
  obtain⟨mA,O,_⟩:=xU I.hok ea
  obtain⟨od,J,_⟩:=O.look
  exact W.kia_one (W.kitx_own (cl.get _) cl.hd ha hn htk hm) I.cN J e (λz=>nomatch z) h
end
structure cP (k:Nat) (A:Around):Prop where
 hd:A.handled=none
 dp:A.depth+3 * k+5<recursionLimit
 un:A.units+16 * k+200<cLine
theorem cP.mono {j k:Nat}{A:Around}(r:cP k A)(h:j<=k):cP j A:=⟨r.hd,by have:=r.dp;omega,by have:=r.un;omega⟩
theorem cP.deeper {k:Nat}{A:Around}(r:cP (k+1) A)(env:Env):cP k (A.deeper env):=
 ⟨r.hd,by have:=r.dp;show A.depth+1+3 * k+5<_;omega,by have:=r.un;show A.units+3+16 * k+200<_;omega⟩
theorem aaJ {A:Around}{C:Addr}{us:List Value}{kw:List (Str × Value)}:(A.under (.builtin "type.__call__" ⟨.ref C::us,kw⟩)).depth=A.depth+1:=by
 first|rfl|simp[Around.under,Code.weight,Code.isCreation,Code.isGuard,Code.isCaller,Code.frames,Code.isFrame,guardIds]
theorem aaK {A:Around}{C:Addr}{us:List Value}{kw:List (Str × Value)}:(A.under (.builtin "type.__call__" ⟨.ref C::us,kw⟩)).units=A.units+1:=by
 first|rfl|simp[Around.under,Code.cUnits,Code.frames,Code.isFrame]
theorem cP.make {k:Nat}{A:Around}(r:cP (k+1) A)(C:Addr)(us:List Value)(kw:List (Str × Value)):cP k (A.under (.builtin "type.__call__" ⟨.ref C::us,kw⟩)):=
 ⟨r.hd,by have:=r.dp;rw[aaJ];omega,by have:=r.un;rw[aaK];omega⟩
theorem cP.depth {k:Nat}{A:Around}(r:cP k A):A.depth<recursionLimit:=by have:=r.dp;omega
theorem cP.units {k:Nat}{A:Around}(r:cP k A):A.units+64<cLine:=by have:=r.un;omega
theorem cP.aaL {k:Nat}{A:Around}(r:cP k A):A.units<cLine:=by have:=r.un;omega
noncomputable def jG:TA:=λ_ H Q=>Q [] H
noncomputable def gF (ta:TE) (tr:TA):TA:=λσ H Q=>ta σ H λx H1=>tr σ H1 λxs H2=>Q (x::xs) H2
section
variable {X:Cx}{e:Expr}{es:List Expr}{te:TE}{t:TA}{pos:Pos}
theorem ao:PA X [] jG:=λ_ _ _ _ H Q I h=>Calls.spliced_nil ⟨[],H,I,.nil,h⟩
theorem aj (ha:PE X e te)(hr:PA X es t)(hs:starEach (e::es) X.env=(false,eval e X.env)::starEach es X.env:=by rfl):PA X (e::es) (gF te t):=by
 intro pos pins s σ H Q I h
 rw[hs]
 show wpAny _ _ (spliced ((false,eval e X.env)::backTo pos (starEach es X.env))) _ _ s
 refine Calls.spliced_cons (aO (ha pins s σ H _ I h) λu s1 ⟨x,H1,I1,r1,q1⟩=>?_)
 exact aO (hr pos pins s1 σ H1 _ I1 q1) λus s2 ⟨xs,H2,I2,r2,q2⟩=>⟨x::xs,H2,I2,.cons r1 r2,q2⟩
noncomputable def xV (t:TA):TE:=λσ H Q=>t σ H λxs H1=>xs.length<=sizeLine/\∀p,H1 p=none->Q (.ref p) (upd H1 p (.tup xs))
noncomputable def Pj (t:TA):TE:=λσ H Q=>t σ H λxs H1=>xs.length<=sizeLine/\∀p,H1 p=none->Q (.ref p) (upd H1 p (.lst xs))
theorem dR {x1}(h:PA X es t):PE X (.Tuple es x1 pos) (xV t):=by
 intro pins s σ H Q I hq
 refine wpAny_Tuple_spliced (aO (h pos pins s σ H _ I hq) λus s1 ⟨xs,H1,I1,r,z,q⟩=>⟨by rw[<-r.length];exact z,?_⟩)
 have hf:H1 s1.heap.objs.size=none:=I1.hok.fresh (Nat.le_refl _)
 refine⟨.ref s1.heap.objs.size,upd H1 s1.heap.objs.size (.tup xs),I1.laid (t':=s1.toks) (λb u e=>Heap.get?_push_of_some _ e) (Nat.le_refl _) ?_,rfl,q _ hf⟩
 exact⟨z,us,r,⟨_,Heap.get?_push_size _ rfl,rfl,_,rfl⟩⟩
theorem cL (h:PA X es t):PE X (.List es pos) (Pj t):=by
 intro pins s σ H Q I hq
 refine wpAny_List_spliced (aO (h pos pins s σ H _ I hq) λus s1 ⟨xs,H1,I1,r,z,q⟩=>⟨by rw[<-r.length];exact z,?_⟩)
 have hf:H1 s1.heap.objs.size=none:=I1.hok.fresh (Nat.le_refl _)
 refine⟨.ref s1.heap.objs.size,upd H1 s1.heap.objs.size (.lst xs),I1.laid (t':=s1.toks) (λb u e=>Heap.get?_push_of_some _ e) (Nat.le_refl _) ?_,rfl,q _ hf⟩
 exact⟨z,us,0,r,Heap.get?_push_size _ rfl⟩
end
noncomputable abbrev Sp:=List V->Hp->VK->XK->Prop
noncomputable abbrev jw:=List Env->Hp->Shared->XK->Value->Shared->Prop
structure qM (P:Program) (w:World) (K:W.Frag) (mg:Str->Option Value) (base:Heap) (A:Around) (outer:List Env) (s:Shared) (H:Hp):Prop where
 frames:A.frames=some outer
 mod:Mod K mg base
 bs:∀b o,base.get? b=some o->s.heap.get? b=some o/\H b=none
 jW:base.objs.size<=s.heap.objs.size
 ju:s.heap.FunFrames base outer
 ou:∀b∈frs outer,H b=none
 hok:cF P w H s.heap
 bare:AllBare s.gens
noncomputable def CE (outer:List Env) (P:Program) (w:World) (H:Hp) (s:Shared) (Q:VK) (u:Value) (s':Shared):Prop:=
 ∃v H',s'.os=s.os/\AllBare s'.gens/\Un (frs outer) [] H H' s.heap s'.heap/\cF P w H' s'.heap/\RelV v u/\Q v H'
noncomputable def CR (CX:jw) (outer:List Env) (P:Program) (w:World) (H:Hp) (s:Shared) (Q:VK) (E:XK) (r:Result) (s':Shared):Prop:=
 match r with
 | .ok (.ret u)=>CE outer P w H s Q u s'
 | .ok _=>False
 | .error e=>CX outer H s E e s'
structure aH (P:Program) (w:World) (K:W.Frag) (mg:Str->Option Value) (base:Heap) (CX:jw) (k:Nat) (f:Addr) (fd:FuncData) (ps:List Str) (sp:Sp):Prop where
 len:∀vs H Q E,sp vs H Q E->vs.length=ps.length
 run:∀(A:Around) (outer:List Env) (s:Shared) (H:Hp) (args:Args) (us:List Value) (vs:List V) (Q:VK) (E:XK),cP k A->qM P w K mg base A outer s H->BindsTo s fd args (ps.zip us)->Vals vs us->sp vs H Q E->
  codeAny (model P w) A (.call (.ref f) args) (CR CX outer P w H s Q E) s
theorem aH.imp {P:Program}{w:World}{K:W.Frag}{mg:Str->Option Value}{base:Heap}{CX:jw}{k:Nat}{f:Addr}{fd:FuncData}{ps:List Str}{sp Pk:Sp}(F:aH P w K mg base CX k f fd ps sp)
 (h:∀vs H Q E,Pk vs H Q E->sp vs H Q E):aH P w K mg base CX k f fd ps Pk:=
 ⟨λvs H Q E q=>F.len vs H Q E (h _ _ _ _ q),λA outer s H args us vs Q E hr he hb hv hs=>F.run A outer s H args us vs Q E hr he hb hv (h _ _ _ _ hs)⟩
theorem qM.make {P:Program}{w:World}{K:W.Frag}{mg:Str->Option Value}{base:Heap}{A:Around}{outer:List Env}{s:Shared}{H:Hp}(e:qM P w K mg base A outer s H)(C:Addr)(us:List Value)(kw:List (Str × Value)):
 qM P w K mg base (A.under (.builtin "type.__call__" ⟨.ref C::us,kw⟩)) outer s H:=⟨by first|exact e.frames|(simpa[Around.under,Code.envs,Code.isFrame,pushEnvs] using e.frames),e.mod,e.bs,e.jW,e.ju,e.ou,e.hok,e.bare⟩
section
variable {X:Cx}{pins:List (Addr × Obj)}{σ:St}{H:Hp}{s s':Shared}
theorem Inv.env0 (I:Inv X pins σ H s):qM X.prog X.w X.K X.mg X.base X.A X.stack s H:=
 ⟨I.ok.frames,I.ok.mod,I.bs,Nat.le_trans I.ok.jW I.sz,I.stack,I.uJ,I.hok,I.bare⟩
theorem Inv.after {Q:VK}{u:Value}(I:Inv X pins σ H s)(h:CE X.stack X.prog X.w H s Q u s'):EP X pins σ Q u s':=by
 obtain⟨v,H',os,bare,un,hok,r,q⟩:=h
 obtain⟨hh,g,d,t,os'⟩:=s'
 obtain rfl:os'=s.os:=os
 exact⟨v,H',I.call (h':=hh) (g':=g) (d':=d) (t':=t) (ch:=[]) un hok bare (λb z=>absurd z (by simp)),r,q⟩
end
noncomputable def BW (sp:Sp) (eG:List V) (E:XK) (t:TA):TE:=λσ H Q=>t σ H λvs H1=>sp (vs++eG) H1 Q E
noncomputable def Pn (C:Addr) (m:Str) (sp:Sp) (eG:List V) (E:XK) (ta:TE) (t:TA):TE:=λσ H Q=>ta σ H λx H1=>∃a dx fs,x=.ref a/\H1 a=some (.ins C dx fs)/\fs.lookup m=none/\
 t σ H1 λvs H2=>sp (x::(vs++eG)) H2 Q E
noncomputable def aaM (C:Addr) (sp:Sp) (eG:List V) (E:XK) (t:TA):TE:=λσ H Q=>t σ H λvs H1=>∀x dx,H1 x=none->H1 dx=none->dx≠x->
 sp (.ref x::(vs++eG)) (upd (upd H1 dx (.own x)) x (.ins C dx [])) (λv H2=>v=.non/\Q (.ref x) H2) E
noncomputable def Binds (K:W.Frag) (fd:FuncData) (ps:List Str) (ds:List Value):Prop:=
 ∀(s:Shared) (us:List Value),K.In s.heap->(us++ds).length=ps.length->BindsTo s fd ⟨us,[]⟩ (ps.zip (us++ds))
theorem Binds.all {K:W.Frag}{fd:FuncData}{ps:List Str}(h:∀us:List Value,us.length=ps.length->bindArgs fd ⟨us,[]⟩=pure (ps.zip us)):Binds K fd ps []:=λs us _ hl=>by
 rw[List.append_nil] at hl ⊢
 exact .of_eq (h us hl)
noncomputable def Passes (CX:jw) (X:Cx) (E:XK):Prop:=∀(pins:List (Addr × Obj)) (σ:St) (H:Hp) (s:Shared) (e:Value) (s':Shared),Inv X pins σ H s->CX X.stack H s E e s'->X.xe e s'
section
variable {X:Cx}{CX:jw}{k:Nat}{f C:Addr}{fd:FuncData}{ps:List Str}{sp:Sp}{eG:List V}{ds:List Value}{E:XK}{x m:Str}{p pos apos:Pos}{e o:Expr}{es:List Expr}{ta:TE}{t:TA}
theorem Pq {pins:List (Addr × Obj)}{σ:St}{H:Hp}{s:Shared}{Q:VK}{us:List Value}{vs:List V}(F:aH X.prog X.w X.K X.mg X.base CX k f fd ps sp)(hr:cP k X.A)(hb:Binds X.K fd ps ds)(hd:Vals eG ds)(hx:Passes CX X E)
 (I:Inv X pins σ H s) (r:Vals vs us) (h:sp (vs++eG) H Q E):wpAny (model X.prog X.w) X.A (call (.ref f) us) (EP X pins σ Q) X.xe s:=by
 have r2:Vals (vs++eG) (us++ds):=r.append hd
 have hl:(us++ds).length=ps.length:=by rw[<-r2.length];exact F.len _ _ _ _ h
 refine wpAny_call (codeAny_mono (F.run X.A X.stack s H ⟨us,[]⟩ (us++ds) (vs++eG) Q E hr I.env0 (hb s us I.cN hl) r2 h) λr s' hq=>?_)
 cases r with
 |error e=>exact hx pins σ H s e s' I hq
 |ok fl=>
  cases fl with
  |ret u=>exact I.after hq
  |next=>exact False.elim hq
  |brk=>exact False.elim hq
  |cont=>exact False.elim hq
theorem bF (F:aH X.prog X.w X.K X.mg X.base CX k f fd ps sp)(hr:cP k X.A)(hg:Gl X x)(hm:X.mg x=some (.ref f))(hk:W.keepIn X.K (.ref f)=true)(hb:Binds X.K fd ps ds)(hd:Vals eG ds)(hx:Passes CX X E)
 (ha:PA X (e::es) t) (hdb:(x == ("__debug__":Str))=false:=by decide) (he:starEach (e::es) X.env=(false,eval e X.env)::starEach es X.env:=by rfl) (hpl:(backTo pos (starEach es X.env)).any (·.1)=false:=by rfl):
 PE X (.Call (.Name x p) (e::es) [] pos) (BW sp eG E t):=by
 intro pins s σ H Q I h
 refine wpAny_Call_Name_kw (uM I hg hm ?_ hdb)
 refine W.callWith_K (h₀:=X.base) I.ok.mod.qz hk (aO (ha pos pins s σ H _ I h) λus s1 ⟨vs,H1,I1,r,q⟩=>⟨I1.cN,?_⟩) he hpl
 exact Pq F hr hb hd hx I1 r q
theorem xW {pl:Sem Bool}(he:PE X o ta)(c:Cls X.K C)(hm:Meth X.K C m f)(F:aH X.prog X.w X.K X.mg X.base CX k f fd ps sp)(hr:cP k X.A)(hb:Binds X.K fd ps ds)(hd:Vals eG ds)(hx:Passes CX X E)(ha:PA X (e::es) t)
 (hst:starEach (e::es) X.env=(false,eval e X.env)::starEach es X.env:=by rfl) (hpl:(backTo pos (starEach es X.env)).any (·.1)=false:=by rfl)
 (ht:eval (.Call (.Attribute o m apos) (e::es) [] pos) X.env=(do
   let ov <-eval o X.env
   standAt apos.atName
   let(f,first) <-holding [ov] (getMethod ov m pl)
   callWith pos f first (backTo pos (starEach (e::es) X.env)) (backToKw pos (keywordEach [] X.env))):=by rfl):
 PE X (.Call (.Attribute o m apos) (e::es) [] pos) (Pn C m sp eG E ta t):=by
 intro pins s σ H Q I h
 refine W.methodCall_KW (pl:=pl) (aO (he pins s σ H _ I h) λu s1 ⟨x,H1,I1,rx,a,dx,fs,ex,ea,l,q⟩=>?_) ht
 subst ex
 obtain rfl:u=Value.ref a:=rx
 refine Pg I1 ea c hm l ?_
 refine W.callWith_K (first:=[.ref a]) (h₀:=X.base) I.ok.mod.qz hm.kp (aO (ha pos pins s1 σ H1 _ I1 q) λus s2 ⟨vs,H2,I2,r,q2⟩=>⟨I2.cN,?_⟩) hst hpl
 exact Pq (us:=.ref a::us) (vs:=.ref a::vs) F hr hb hd hx I2 (.cons rfl r) q2
structure Mk (K:W.Frag) (C f:Addr):Prop where
 makes:W.makesIn K C=true
 init:W.findIn K (.ref C) "__init__"=some (some (.ref f))
 fn:W.isFn K (.ref f)=true
 kp:W.keepIn K (.ref C)=true
theorem aaN {pins:List (Addr × Obj)}{σ:St}{H:Hp}{s:Shared}{Q:VK}{us:List Value}{vs:List V}(M:Mk X.K C f)(F:aH X.prog X.w X.K X.mg X.base CX k f fd ps sp)(hr:cP (k+1) X.A)(hb:Binds X.K fd ps ds)(hd:Vals eG ds)
 (hx:Passes CX X E) (I:Inv X pins σ H s) (r:Vals vs us)
 (h:∀x dx,H x=none->H dx=none->dx≠x->sp (.ref x::(vs++eG)) (upd (upd H dx (.own x)) x (.ins C dx [])) (λv H2=>v=.non/\Q (.ref x) H2) E):
 wpAny (model X.prog X.w) X.A (call (.ref C) us) (EP X pins σ Q) X.xe s:=by
 have hq:=h (s.heap.objs.size+1) s.heap.objs.size (I.hok.fresh (Nat.le_succ _)) (I.hok.fresh (Nat.le_refl _)) (Nat.ne_of_lt (Nat.lt_succ_self _))
 have I2:=Inv.made (C:=C) I
 have r2:Vals (V.ref (s.heap.objs.size+1)::(vs++eG)) (Value.ref (s.heap.objs.size+1)::(us++ds)):=.cons rfl (r.append hd)
 have hl:(Value.ref (s.heap.objs.size+1)::us++ds).length=ps.length:=by
  have e:=r2.length
  rw[F.len _ _ _ _ hq] at e
  exact e.symm
 refine wpAny_call (aaD (f:=f) I.cN M.makes M.init (beq_iff_eq.mp M.fn) (codeAny_mono (F.run _ X.stack _ _ ⟨Value.ref (s.heap.objs.size+1)::us,[]⟩ (Value.ref (s.heap.objs.size+1)::(us++ds)) _ _ E (hr.make C us [])
  (I2.env0.make C us []) (hb _ (Value.ref (s.heap.objs.size+1)::us) I2.cN hl) r2 hq) λr s' hq'=>?_))
 cases r with
 |error e=>exact hx pins σ _ _ e s' I2 hq'
 |ok fl=>
  cases fl with
  |ret u=>
   obtain⟨v,H',I3,rv,ev,q3⟩:=I2.after hq'
   subst ev
   exact⟨rv,⟨V.ref (s.heap.objs.size+1),H',I3,rfl,q3⟩⟩
  |next=>exact False.elim hq'
  |brk=>exact False.elim hq'
  |cont=>exact False.elim hq'
theorem aaO (M:Mk X.K C f)(F:aH X.prog X.w X.K X.mg X.base CX k f fd ps sp)(hr:cP (k+1) X.A)(hg:Gl X x)(hm:X.mg x=some (.ref C))(hb:Binds X.K fd ps ds)(hd:Vals eG ds)(hx:Passes CX X E)
 (ha:PA X (e::es) t) (hdb:(x == ("__debug__":Str))=false:=by decide) (he:starEach (e::es) X.env=(false,eval e X.env)::starEach es X.env:=by rfl) (hpl:(backTo pos (starEach es X.env)).any (·.1)=false:=by rfl):
 PE X (.Call (.Name x p) (e::es) [] pos) (aaM C sp eG E t):=by
 intro pins s σ H Q I h
 refine wpAny_Call_Name_kw (uM I hg hm ?_ hdb)
 refine W.callWith_K (h₀:=X.base) I.ok.mod.qz M.kp (aO (ha pos pins s σ H _ I h) λus s1 ⟨vs,H1,I1,r,q⟩=>⟨I1.cN,?_⟩) he hpl
 exact aaN M F hr hb hd hx I1 r q
end
section
variable {X:Cx}{CX:jw}{k:Nat}{f C:Addr}{fd:FuncData}{ps ks:List Str}{sp:Sp}{E:XK}{x m:Str}{p pos apos kpos:Pos}{e o:Expr}{es:List Expr}{kws:List Keyword}{te ta:TE}{t tk:TA}{nm:Option Str}
variable {g:List Value->List Value->List Value}{gV:List V->List V->List V}
end
structure b_ (N P:List Str) (sc:Scope):Prop where
 kind:sc.kind=.function
 co:sc.isCoroutine=false
 gen:sc.isGenerator=false
 nd:N.Nodup
 pre:N.take P.length=P
 par:∀x∈P,sc.names.lookup x=some .local\/sc.names.lookup x=some .cell
 aaP:∀y∈sc.names,y.2≠ .free
theorem cI {N Q:List Str}{sc:Scope}(h1:sc.kind=.function:=by rfl)(h2:sc.isCoroutine=false:=by rfl)(h3:sc.isGenerator=false:=by rfl)(h4:N.Nodup:=by decide +kernel)(h5:N.take Q.length=Q:=by rfl)(h6:∀x∈Q,sc.names.lookup x=some .local\/sc.names.lookup x=some .cell:=by decide +kernel)(h7:∀y∈sc.names,y.2≠ .free:=by decide +kernel):b_ N Q sc:=⟨h1,h2,h3,h4,h5,h6,h7⟩
theorem Pr {kindOf:Str->Option NameKind}{x:Str}:∀{binds:List (Str × Value)}{m:Str->Option Value},(∀v,(x,v) ∉ binds)->bindL kindOf binds m x=m x
 |[],_,_=>rfl
 |(n,v)::r,m,h=>by
  unfold bindL
  rw[Pr λw hw=>h w (List.mem_cons_of_mem _ hw)]
  split
  . have:x≠n:=by rintro rfl;exact h v List.mem_cons_self
    simp[this]
  . rfl
theorem Pu {kindOf:Str->Option NameKind}{x:Str}:∀{binds:List (Str × Value)}{m:Str->Option Value},(∀v,(x,v) ∉ binds)->bindC kindOf binds m x=m x
 |[],_,_=>rfl
 |(n,v)::r,m,h=>by
  unfold bindC
  rw[Pu λw hw=>h w (List.mem_cons_of_mem _ hw)]
  split
  . rfl
  . have:x≠n:=by rintro rfl;exact h v List.mem_cons_self
    simp[this]
theorem Px {kindOf:Str->Option NameKind}{x:Str}{v:Value}:∀{P:List Str}{vs:List Value}{i:Nat}{m:Str->Option Value},P.Nodup->P[i]? =some x->vs[i]? =some v->kindOf x=some .local->
 bindL kindOf (P.zip vs) m x=some v
 |[],_,_,_,_,h,_,_=>by simp at h
 |_::_,[],_,_,_,_,h,_=>by simp at h
 |p::P,w::vs,0,m,nd,h1,h2,hk=>by
  simp at h1 h2;subst h1;subst h2
  show bindL kindOf ((p,w)::P.zip vs) m p=_
  unfold bindL
  rw[Pr λv hv=>(List.nodup_cons.mp nd).1 (List.of_mem_zip hv).1,if_pos hk]
  simp
 |p::P,w::vs,i+1,m,nd,h1,h2,hk=>by
  show bindL kindOf ((p,w)::P.zip vs) m x=_
  unfold bindL
  exact Px (i:=i) (List.nodup_cons.mp nd).2 (by simpa using h1) (by simpa using h2) hk
theorem Py {kindOf:Str->Option NameKind}{x:Str}{v:Value}:∀{P:List Str}{vs:List Value}{i:Nat}{m:Str->Option Value},P.Nodup->P[i]? =some x->vs[i]? =some v->kindOf x≠some .local->
 bindC kindOf (P.zip vs) m x=some v
 |[],_,_,_,_,h,_,_=>by simp at h
 |_::_,[],_,_,_,_,h,_=>by simp at h
 |p::P,w::vs,0,m,nd,h1,h2,hk=>by
  simp at h1 h2;subst h1;subst h2
  show bindC kindOf ((p,w)::P.zip vs) m p=_
  unfold bindC
  rw[Pu λv hv=>(List.nodup_cons.mp nd).1 (List.of_mem_zip hv).1,if_neg hk]
  simp
 |p::P,w::vs,i+1,m,nd,h1,h2,hk=>by
  show bindC kindOf ((p,w)::P.zip vs) m x=_
  unfold bindC
  exact Py (i:=i) (List.nodup_cons.mp nd).2 (by simpa using h1) (by simpa using h2) hk
noncomputable def start (N:List Str) (vs:List V):St:=vs.map some++List.replicate (N.length - vs.length) none
noncomputable def lM (CX:jw) (P:Program) (w:World) (K:W.Frag) (mg:Str->Option Value) (base:Heap) (N:List Str) (qual:Str) (scope:Scope) (f:Addr) (cd:Value) (A:Around) (outer:List Env) (s:Shared) (H:Hp) (E:XK):Cx where
 prog:=P
 w:=w
 K:=K
 mg:=mg
 base:=base
 A:=A.deeper (envOfC qual scope s.heap.objs.size f cd)
 N:=N
 s₀:=s
 H₀:=H
 env:=envOfC qual scope s.heap.objs.size f cd
 outer:=outer
 stack:=envOfC qual scope s.heap.objs.size f cd::outer
 ex:=[]
 calm:=true
 fn:=λ_=>true
 pn:=[]
 xe:=λe s'=>wpAny (model P w) (A.deeper (envOfC qual scope s.heap.objs.size f cd)) (leaving (envOfC qual scope s.heap.objs.size f cd) e) (λ_ s''=>CX outer H s E e s'') (λe' s''=>CX outer H s E e' s'') s'
theorem Pz {sc:Scope}{n:Nat}{x:Str}(h:sc.names.lookup x=some .cell):∃c,(cellsFrom n sc.names []).lookup x=some c:=by
 have q:=W.cellsFrom_some sc.names n [] (.inl h)
 exact Option.isSome_iff_exists.mp q
theorem aaQ {CX:jw}{P:Program}{w:World}{K:W.Frag}{mg:Str->Option Value}{base:Heap}{N ps:List Str}{qual:Str}{scope:Scope}{f:Addr}{cd:Value}{A:Around}{outer:List Env}{s s1:Shared}{H:Hp}{E:XK}{us:List Value}{vs:List V}
 (S:b_ N ps scope) (hd:A.handled=none) (e0:qM P w K mg base A outer s H) (hl:vs.length=ps.length) (r:Vals vs us)
 (x:InCallC s s.heap.objs.size (bindL (envOfC qual scope s.heap.objs.size f cd).kindOf (ps.zip us) λ_=>none) (cellsFrom (s.heap.objs.size+1) scope.names []) (bindC (envOfC qual scope s.heap.objs.size f cd).kindOf (ps.zip us) λ_=>none) s1):
 Inv (lM CX P w K mg base N qual scope f cd A outer s H E) [] (start N vs) H s1:=by
 have hpl:ps.length<=N.length:=by have:=congrArg List.length S.pre;rw[List.length_take] at this;omega
 obtain⟨h1,tk,rfl,hk⟩:=x.done
 have BX:∀b:Addr,b ∉ (lM CX P w K mg base N qual scope f cd A outer s H E).ex:=λb z=>absurd (show b∈([]:List Addr) from z) (by simp)
 refine⟨⟨e0.mod,S.kind,rfl,rfl,Nat.le_refl _,λy z c h1 h2=>?_,λy hy=>?_,λy c _ h=>?_,λ_=>hd,Around.frames_deeper e0.frames,.inr ⟨rfl,rfl⟩,λb z=>absurd z (BX b),e0.bs,e0.jW,λb _ _=>BX b,λb z=>absurd z (BX b),e0.ju,e0.ou⟩,
  rfl,e0.bare,Un.kept hk,⟨_,x.toInCall.ns,λi y v h1 h2 h3=>?_⟩,λy c h=>⟨_,x.cell y c h⟩,e0.hok.fresh (Nat.le_refl _),λy c h=>?_,λp hp=>absurd (show p∈([]:List (Addr × Obj)) from hp) (by simp),e0.hok.kept hk,?_⟩
 . exact name_of_addr x.apart (PySem.mem_of_lookup h1) (PySem.mem_of_lookup h2)
 . have hy:scope.names.lookup y=some .cell\/scope.names.lookup y=some .free:=hy
   rcases hy with hy|hy
   . exact Pz hy
   . exact absurd rfl (S.aaP _ (PySem.mem_of_lookup hy))
 . exact Nat.le_of_lt (x.above y c (PySem.mem_of_lookup h))
 . have hi:i<vs.length:=by
    unfold start at h2
    by_cases hi:i<vs.length
    . exact hi
    . rw[List.getElem?_append_right (by simpa using hi)] at h2
      rw[List.getElem?_replicate] at h2
      split at h2 <;> cases h2
   have ha:vs[i]? =some v:=by
    unfold start at h2
    rw[List.getElem?_append_left (by simpa using hi),List.getElem?_map] at h2
    cases e:vs[i]? with
    |none=>rw[e] at h2;cases h2
    |some a=>rw[e] at h2;cases h2;rfl
   obtain⟨u,hu,rv⟩:=r.get ha
   have hp:ps[i]? =some y:=by
    rw[<-S.pre,List.getElem?_take_of_lt (by omega)];exact h1
   have PB:ps.Nodup:=by rw[<-S.pre];exact S.nd.sublist (List.take_sublist _ _)
   refine⟨u,rv,?_⟩
   rcases S.par y (List.mem_of_getElem? hp) with k|k
   . exact .inl ⟨k,Px PB hp hu k⟩
   . obtain⟨c,e⟩:=Pz (n:=s.heap.objs.size+1) k
     refine .inr ⟨.inl k,c,e,?_⟩
     have q:=x.cell y c e
     rw[Py PB hp hu (by show scope.names.lookup y≠_;rw[k];decide)] at q
     exact q
 . exact e0.hok.fresh (Nat.le_of_lt (x.above y c (PySem.mem_of_lookup h)))
 . unfold start
   show _=N.length
   rw[List.length_append,List.length_map,List.length_replicate]
   omega
theorem BZ {CX:jw}{P:Program}{w:World}{K:W.Frag}{mg:Str->Option Value}{base:Heap}{k:Nat}{f:Addr}{name qual:Str}{params:Arguments}{body:List Stmt}{scope:Scope}{dV kV doc pm cdv ct oc:Value}{an od:Option Addr}
 {osl:Array (Option Value)} {N ps:List Str} {sp:Sp} (lk:K.lookup f=some ⟨oc,od,.func (W.fnOf name qual params body scope dV kV doc pm an cdv ct),osl⟩) (hcd:W.codeIn K cdv qual=true) (S:b_ N ps scope)
 (len:∀vs H Q E,sp vs H Q E->vs.length=ps.length)
 (hbody:∀(A:Around) (outer:List Env) (s:Shared) (H:Hp) (vs:List V) (Q:VK) (E:XK),cP k (A.deeper (envOfC qual scope s.heap.objs.size f cdv))->sp vs H Q E->
   ∃t,gP (lM CX P w K mg base N qual scope f cdv A outer s H E) body t/\t { nx:=λ_ H'=>Q .non H',rt:=Q } (start N vs) H):
 aH P w K mg base CX (k+1) f (W.fnOf name qual params body scope dV kV doc pm an cdv ct) ps sp:=by
 refine⟨len,λA outer s H args us vs Q E hr e0 hb r hsp=>?_⟩
 have hl:=len _ _ _ _ hsp
 have KX:K.In s.heap:=e0.mod.qz.keeps λb o e=>(e0.bs b o e).1
 have lim:s.heap.NoLimit:=e0.mod.nolimit.keeps λb o e=>(e0.bs b o e).1
 have hkind:∀y∈ps.zip us,scope.names.lookup y.1=some .local\/(scope.names.lookup y.1=some .cell/\((cellsFrom (s.heap.objs.size+1) scope.names []).lookup y.1).isSome=true):=λ⟨n,v⟩ hy=>by
  rcases S.par n (List.of_mem_zip hy).1 with q|q
  . exact .inl q
  . exact .inr ⟨q,W.cellsFrom_some _ _ _ (.inl q)⟩
 refine codeAny_call_function hr.depth (KX _ _ lk) rfl S.co S.gen rfl (W.codeRec_of KX hcd) (hb _ _ _ _ ?_)
 refine wpAny_newFunctionEnv_cells S.kind hkind λenv he s1 x=>?_
 subst he
 refine⟨lim.keeps x.toInCall.keep,codeAny_func ?_⟩
 obtain⟨t,ht,hq⟩:=hbody A outer s H vs Q E (hr.deeper _) hsp
 have I:Inv (lM CX P w K mg base N qual scope f cdv A outer s H E) [] (start N vs) H s1:=aaQ S hr.hd e0 hl r x
 refine wpAny_mono (ht [] s1 (start N vs) H _ I hq) (λfl s' hs=>?_) λe s' hs=>hs
 have fin:∀{σ':St} {H':Hp} {v:V} {u:Value},Inv (lM CX P w K mg base N qual scope f cdv A outer s H E) [] σ' H' s'->RelV v u->Q v H'->CE outer P w H s Q u s':=
  λ{σ' H' v u} J rv q=>⟨v,H',J.os,J.bare,J.base,J.hok,rv,q⟩
 cases fl with
 |ret u=>
  obtain⟨v,σ',H',J,rv,q⟩:=hs
  exact fin J rv q
 |next=>
  obtain⟨σ',H',J,q⟩:=hs
  exact fin (v:=V.non) (u:=Value.none) J rfl q
 |brk=>
  obtain⟨_,_,_,q⟩:=hs
  exact False.elim q
 |cont=>
  obtain⟨_,_,_,q⟩:=hs
  exact False.elim q
section
variable {X:Cx}{x:Str}{p pos:Pos}{e:Expr}{es:List Expr}{t:TA}{id T:String}{r:List V->Hp->VK->Prop}
noncomputable def qN (r:List V->Hp->VK->Prop) (t:TA):TE:=λσ H Q=>t σ H λvs H1=>r vs H1 Q
theorem bN (hc:eZ X (.builtin id) r)(hg:Gl X x)(hm:X.mg x=none)(hv:bootBuiltins x=some (.builtin id))(ha:PA X (e::es) t)(hn:x≠"__name__":=by decide)(hdb:(x == ("__debug__":Str))=false:=by decide)
 (he:starEach (e::es) X.env=(false,eval e X.env)::starEach es X.env:=by rfl) (hpl:(backTo pos (starEach es X.env)).any (·.1)=false:=by rfl):PE X (.Call (.Name x p) (e::es) [] pos) (qN r t):=by
 intro pins s σ H Q I h
 refine wpAny_Call_Name_kw (oA I hg hm hv ?_ hn hdb)
 exact PyProof.Rows.callWith_builtin1 (aO (ha pos pins s σ H _ I h) λus s1 ⟨vs,H1,I1,r1,q1⟩=>hc pins s1 σ H1 vs us Q I1 r1 q1) he hpl
theorem qO (hc:eZ X (.type T) r)(hg:Gl X x)(hm:X.mg x=none)(hv:bootBuiltins x=some (.type T))(ha:PA X (e::es) t)(hn:x≠"__name__":=by decide)(hdb:(x == ("__debug__":Str))=false:=by decide)
 (he:starEach (e::es) X.env=(false,eval e X.env)::starEach es X.env:=by rfl) (hpl:(backTo pos (starEach es X.env)).any (·.1)=false:=by rfl):PE X (.Call (.Name x p) (e::es) [] pos) (qN r t):=by
 intro pins s σ H Q I h
 refine wpAny_Call_Name_kw (oA I hg hm hv ?_ hn hdb)
 exact PyProof.Rows.callWith_type1 (aO (ha pos pins s σ H _ I h) λus s1 ⟨vs,H1,I1,r1,q1⟩=>hc pins s1 σ H1 vs us Q I1 r1 q1) he hpl
end
end L2
namespace HT
open PySem PyProof.Rows
section
open PySem.SeqAt
open PySem.AutoSeq1 (wpAny_loadPart')
open PySem.MeetsSeq PySem.MeetsSeq2 PySem.MeetsSeq3
end
section
variable {prog:Program}{w:World}{A:Around}{E:Value->Shared->Prop}{s:Shared}
noncomputable def gW (n d:Nat):Option Int->Nat
 |none=>d
 |some v=>if v<0 then(v+(n:Int)).toNat else min v.toNat n
theorem PJ (n d:Nat):gW n d none=d:=rfl
theorem PK (n d k:Nat):gW n d (some (k:Int))=min k n:=by
 show(if(k:Int)<0 then((k:Int)+(n:Int)).toNat else min (k:Int).toNat n)=min k n
 rw[if_neg (by omega),Int.toNat_natCast]
end
end HT
namespace L2
open PySem PySem.Spec PyProof.Rows
noncomputable abbrev TO:=St->Hp->(Option Int->Hp->Prop)->Prop
noncomputable def PO (X:Cx) (e:Option Expr) (t:TO):Prop:=
 ∀(pins:List (Addr × Obj)) (s:Shared) (σ:St) (H:Hp) (Q:Option Int->Hp->Prop),Inv X pins σ H s->t σ H Q->
  wpAny (model X.prog X.w) X.A (evalPart e X.env) (λu s'=>∃o H',Inv X pins σ H' s'/\IsPart u o/\Q o H') X.xe s
noncomputable def aaR:TO:=λ_ H Q=>Q none H
noncomputable def aaS (t:TE):TO:=λσ H Q=>t σ H λx H1=>∃i,x=.int i/\Q (some i) H1
section
variable {X:Cx}{e:Expr}{te:TE}{lo hi:Option Expr}{tl th:TO}{pos p2:Pos}
theorem uX:PO X none aaR:=by
 intro pins s σ H Q I h
 rw[evalPart_none]
 exact wpAny_pure ⟨none,H,I,.none,h⟩
theorem uY (h:PE X e te):PO X (some e) (aaS te):=by
 intro pins s σ H Q I hw
 rw[evalPart_some]
 refine aO (h pins s σ H _ I hw) λu s1 ⟨x,H1,I1,r1,q1⟩=>?_
 obtain⟨i,rfl,q⟩:=q1
 obtain⟨t,rfl⟩:=r1
 exact⟨some i,H1,I1,.int i t,q⟩
noncomputable def B_ (X:Cx) (r:V->Option Int->Option Int->Hp->VK->Prop):Prop:=
 ∀(pins:List (Addr × Obj)) (s:Shared) (σ:St) (H:Hp) (x:V) (v vl vu:Value) (lo hi:Option Int) (sl:Addr) (Q:VK),Inv X pins σ H s->RelV x v->s.heap.IsSliceOf sl vl vu .none->IsPart vl lo->IsPart vu hi->r x lo hi H Q->
  ∃T id,typeLookup (.type T) "__getitem__"=pure (some (.builtin id))/\s.TypeIs v T/\wpAny (model X.prog X.w) X.A (getItem v (.ref sl)) (EP X pins σ Q) X.xe s
noncomputable def tSl (r:V->Option Int->Option Int->Hp->VK->Prop) (te:TE) (tl th:TO):TE:=λσ H Q=>te σ H λx H1=>tl σ H1 λl H2=>th σ H2 λu H3=>r x l u H3 Q
theorem uZ {r:V->Option Int->Option Int->Hp->VK->Prop}(hr:B_ X r)(he:PE X e te)(hl:PO X lo tl)(hu:PO X hi th):PE X (.Subscript e (.Slice lo hi none p2) pos) (tSl r te tl th):=by
 intro pins s σ H Q I h
 refine Subscript_ (aO (he pins s σ H _ I h) λv s1 ⟨x,H1,I1,r1,q1⟩=>?_)
 refine wpAny_Slice (aO (hl pins s1 σ H1 _ I1 q1) λvl s2 ⟨l,H2,I2,pl,q2⟩=>aO (hu pins s2 σ H2 _ I2 q2) λvu s3 ⟨u,H3,I3,pu,q3⟩=>?_)
 rw[evalPart_none]
 refine wpAny_pure ?_
 have I4:Inv X pins σ H3 { s3 with heap:=s3.heap.push { cls:=.type "slice",data:=.fields #[vl,vu,.none] } }:=I3.kept (t':=s3.toks) λb ob q=>Heap.get?_push_of_some _ q
 obtain⟨T,id,hT,ht,hg⟩:=hr pins { s3 with heap:=s3.heap.push { cls:=.type "slice",data:=.fields #[vl,vu,.none] } } σ H3 x v vl vu l u s3.heap.objs.size Q I4 r1 (Heap.IsSliceOf.new ..) pl pu q3
 show wpAny (model X.prog X.w) X.A (subscriptTail e (.Slice lo hi none p2) v (.ref s3.heap.objs.size)) (EP X pins σ Q) X.xe { s3 with heap:=s3.heap.push { cls:=.type "slice",data:=.fields #[vl,vu,.none] } }
 exact tail_any (ops:=[.ref s3.heap.objs.size,v]) ht hT hg (by with_unfolding_all rfl)
noncomputable def mV (xs:List V) (lo hi:Option Int):List V:=(xs.drop (HT.gW xs.length 0 lo)).take (HT.gW xs.length xs.length hi - HT.gW xs.length 0 lo)
theorem aaU (xs:List V)(lo hi:Option Int):(mV xs lo hi).length<=xs.length:=by
 unfold mV
 rw[List.length_take,List.length_drop]
 omega
end
noncomputable def mW (n:Nat) (i:Int):Option Nat:=if 0<=i then(if i<n then some i.toNat else none) else if -(n:Int)<=i then some (i+n).toNat else none
noncomputable def dj {α:Type}(xs:List α) (i:Int):Option α:=(mW xs.length i).bind λj=>xs[j]?
theorem PL {n:Nat}{i:Int}{j:Nat}(h:mW n i=some j):seqIndex? i n=some j/\j<n/\ -(n:Int)<=i/\i<n:=by
 unfold mW at h
 by_cases h0:0<=i
 . rw[if_pos h0] at h
   by_cases h1:i<n
   . rw[if_pos h1] at h
     have e:i.toNat=j:=Option.some.inj h
     exact⟨by rw[seqIndex_of h0 h1,e],by omega,by omega,h1⟩
   . rw[if_neg h1] at h;cases h
 . rw[if_neg h0] at h
   by_cases h1: -(n:Int)<=i
   . rw[if_pos h1] at h
     have e:(i+n).toNat=j:=Option.some.inj h
     exact⟨by rw[seqIndex_neg (by omega) h1,e],by omega,h1,by omega⟩
   . rw[if_neg h1] at h;cases h
theorem Ca {α:Type}{xs:List α}{i:Int}{v:α}(h:dj xs i=some v):∃j,seqIndex? i xs.length=some j/\xs[j]? =some v/\j<xs.length/\ -(xs.length:Int)<=i/\i<xs.length:=by
 unfold dj at h
 cases e:mW xs.length i with
 |none=>rw[e] at h;cases h
 |some j=>
  rw[e] at h
  obtain⟨h1,h2,h3,h4⟩:=PL e
  exact⟨j,h1,h,h2,h3,h4⟩
theorem iG {α:Type}{xs:List α}{j:Nat}{v:α}(h:xs[j]? =some v):dj xs (j:Int)=some v:=by
 have hj:j<xs.length:=(List.getElem?_eq_some_iff.mp h).1
 have e:mW xs.length (j:Int)=some j:=by
  unfold mW
  rw[if_pos (by omega),if_pos (by omega)];simp
 unfold dj;rw[e];exact h
noncomputable def aaV (b:Expr):Prop:=∀o i,subscripted b false o i=operate [o,i] (getItem o i)
noncomputable def xX (X:Cx) (r:R2):Prop:=
 ∀(value slice:Expr) (pins:List (Addr × Obj)) (s:Shared) (σ:St) (H:Hp) (x y:V) (v u:Value) (Q:VK),Inv X pins σ H s->RelV x v->RelV y u->r x y H Q->
  subscripted slice false v u=operate [v,u] (getItem v u)->wpAny (model X.prog X.w) X.A (subscriptTail value slice v u) (EP X pins σ Q) X.xe s
noncomputable def xY (X:Cx) (id:String) (r:V->List V->Hp->VK->Prop):Prop:=
 ∀(pins:List (Addr × Obj)) (s:Shared) (σ:St) (H:Hp) (x:V) (xs:List V) (v:Value) (us:List Value) (Q:VK),Inv X pins σ H s->RelV x v->Vals xs us->r x xs H Q->
  wpAny (model X.prog X.w) X.A (call (.builtin id) (v::us)) (EP X pins σ Q) X.xe s
section
variable {X:Cx}{a b:Expr}{ta tb:TE}{pos:Pos}
theorem aJ {r:R2}(hr:xX X r)(ha:PE X a ta)(hb:PE X b tb)(hs:aaV b):PE X (.Subscript a b pos) (jF r ta tb):=by
 intro pins s σ H Q I h
 exact Subscript_ (Bx ha hb I h λv u s2 x y H2 I2 rx ry q=>hr a b pins s2 σ H2 x y v u Q I2 rx ry q (hs _ _))
noncomputable def aaW (K:W.Frag):R2:=λx y H Q=>∃p xs i v,x=.ref p/\y=.int i/\aq K H p xs/\dj xs i=some v/\Q v H
noncomputable def u0 (K:W.Frag):R2:=λx y H Q=>∃p xs i v,x=.ref p/\y=.int i/\aN K H p xs/\dj xs i=some v/\Q v H
noncomputable def aaX:R2:=λx y H Q=>∃z i c,x=.str z/\y=.int i/\z.length<=sizeLine/\dj z.cps.toList i=some c/\Q (.str ⟨#[c]⟩) H
theorem bh:xX X (aaW X.K):=by
 intro value slice pins s σ H x y v u Q I rx ry h hs
 obtain⟨p,xs,i,z,rfl,rfl,hq,he,q⟩:=h
 cases rx
 obtain⟨t,rfl⟩:=ry
 obtain⟨its,r,pl,hz⟩:=I.list hq
 obtain⟨j,h1,h2,h3,h4,h5⟩:=Ca he
 obtain⟨w,ew,iH⟩:=r.get h2
 have hl:=r.length
 have hn:=qK
 have fin:EP X pins σ Q w s:=⟨z,H,I,iH,q⟩
 by_cases h0:0<=i
 . have hj:i.toNat=j:=by
    rw[seqIndex_of h0 h5] at h1
    exact Option.some.inj h1
   exact item_listR pl.isList h0 (by omega) (by rw[hj];simpa using ew) fin hs
 . have hj:(i+(its.toArray.size:Int)).toNat=j:=by
    rw[seqIndex_neg (by omega) h4] at h1
    rw[List.size_toArray,<-hl]
    exact Option.some.inj h1
   exact subscriptTail_builtinR (x:=w) pl.isList.typeIs slot_list_getitem.lookup
    (wpAny_getItem_list_neg (Q:=λr s'=>r=w/\EP X pins σ Q r s') pl.isList (by omega) (by rw[List.size_toArray] <;> omega) (by omega) (by rw[hj];simpa using ew) ⟨rfl,fin⟩) hs
theorem bV:xX X (u0 X.K):=by
 intro value slice pins s σ H x y v u Q I rx ry h hs
 obtain⟨p,xs,i,z,rfl,rfl,hq,he,q⟩:=h
 cases rx
 obtain⟨t,rfl⟩:=ry
 obtain⟨its,r,pl,hz⟩:=I.tuple hq
 obtain⟨j,h1,h2,h3,h4,h5⟩:=Ca he
 obtain⟨w,ew,iH⟩:=r.get h2
 have hl:=r.length
 have hn:=qK
 have fin:EP X pins σ Q w s:=⟨z,H,I,iH,q⟩
 exact subscriptTail_builtinR (x:=w) pl.typeIs slot_tuple_getitem.lookup
  (getItem_tuple (j:=j) (Q:=λr s'=>r=w/\EP X pins σ Q r s') pl (by omega) (by omega) (by rw[List.size_toArray,<-hl];exact h1) (by simpa using ew) ⟨rfl,fin⟩) hs
theorem u5:xX X aaX:=by
 intro value slice pins s σ H x y v u Q I rx ry h hs
 obtain⟨z,i,c,rfl,rfl,hz,he,q⟩:=h
 obtain⟨t,rfl⟩:=rx
 obtain⟨t',rfl⟩:=ry
 obtain⟨j,h1,h2,h3,h4,h5⟩:=Ca he
 have hl:z.cps.toList.length=z.length:=by simp[Str.length]
 rw[hl] at h1 h4 h5
 have hn:=qK
 exact tail_any (typeIs_str s z t) slot_str_getitem.lookup (getItem_str (c:=c) (by
  have e1:decide (i< -(2 ^ 63:Int))=false:=decide_eq_false (by omega)
  have e2:decide (i ≥ 2 ^ 63)=false:=decide_eq_false (by omega)
  rw[e1,e2,Bool.or_false]) (by rw[h1];simpa using h2) ⟨.str ⟨#[c]⟩,H,I.tok _,⟨_,rfl⟩,q⟩) hs
theorem aaY (its:List Value)(n j:Nat)(u:Value):Obj.mapSeq (·.setIfInBounds j u) { cls:=.type "list",data:=.seq its.toArray n }={ cls:=.type "list",data:=.seq (its.set j u).toArray n }:=by
 simp[Obj.mapSeq]
theorem Inv.lst {pins:List (Addr × Obj)}{σ:St}{H:Hp}{s:Shared}{p:Addr}{xs:List V}(I:Inv X pins σ H s)(h:H p=some (.lst xs)):
 ∃(its:List Value) (n:Nat),Vals xs its/\s.heap.get? p=some { cls:=.type "list",data:=.seq its.toArray n }/\xs.length<=sizeLine:=by
 obtain⟨z,its,n,r,e⟩:=I.hok p _ h
 exact⟨its,n,r,e,z⟩
theorem Inv.aaZ {pins:List (Addr × Obj)}{σ:St}{H:Hp}{s:Shared}{p:Addr}{xs ys:List V}{its its':List Value}{n n':Nat}{f:Obj->Obj}(I:Inv X pins σ H s)(h:H p=some (.lst xs))
 (ho:s.heap.get? p=some { cls:=.type "list",data:=.seq its.toArray n }) (hf:f { cls:=.type "list",data:=.seq its.toArray n }={ cls:=.type "list",data:=.seq its'.toArray n' }) (r:Vals ys its') (hz:ys.length<=sizeLine) (t:Nat):
 Inv X pins σ (upd H p (.lst ys)) { s with heap:=s.heap.update p f,toks:=t }:=by
 have e:(s.heap.update p f).get? p=some { cls:=.type "list",data:=.seq its'.toArray n' }:=by
  rw[Heap.get?_update_self f ho (by rw[hf] <;> rfl),hf]
 refine I.write (x:=p) (e:=p) (by rw[h];trivial) (.inl rfl) (λb u hb q=>(Heap.get?_update_other _ _ (Ne.symm hb)).trans q) ⟨_,e⟩ ?_
 exact⟨hz,its',n',r,e⟩
noncomputable def aa0:V->V->V->Hp->(Hp->Prop)->Prop:=λo i v H Q=>∃p xs k j,o=.ref p/\i=.int k/\H p=some (.lst xs)/\mW xs.length k=some j/\Q (upd H p (.lst (xs.set j v)))
theorem set_list:Ot X aa0:=by
 intro pins s σ H o i v ov iv u Q I ro ri rv h
 obtain⟨p,xs,k,j,rfl,rfl,hp,hj,q⟩:=h
 cases ro
 obtain⟨t,rfl⟩:=ri
 obtain⟨its,n,r,ho,hz⟩:=I.lst hp
 obtain⟨h1,h2,h3,h4⟩:=PL hj
 have hl:=r.length
 have hn:=qK
 have I':Inv X pins σ (upd H p (.lst (xs.set j v))) { s with heap:=s.heap.update p (Obj.mapSeq (·.setIfInBounds j u)) }:=
  I.aaZ hp ho (aaY its n j u) (r.set rv j) (by rw[List.length_set];exact hz) s.toks
 by_cases h0:0<=k
 . have hk:k.toNat=j:=by
    rw[seqIndex_of h0 h4] at h1
    exact Option.some.inj h1
   exact W.ki_setAt ho h0 (by omega) (by rw[List.size_toArray,<-hl];exact h4) (by rw[hk];exact⟨_,I',q⟩)
 . have hk:(k+(its.toArray.size:Int)).toNat=j:=by
    rw[seqIndex_neg (by omega) h3] at h1
    rw[List.size_toArray,<-hl]
    exact Option.some.inj h1
   exact W.ki_setBack ho (by omega) (by rw[List.size_toArray,<-hl];exact h3) (by omega) (by rw[hk];exact⟨_,I',q⟩)
theorem aa1 (lo hi:Option Int)(n:Nat):(sliceBounds lo hi none n).1=((HT.gW n 0 lo:Nat):Int)/\(sliceBounds lo hi none n).2.1=((HT.gW n n hi:Nat):Int)/\(sliceBounds lo hi none n).2.2=1:=by
 refine⟨?_,?_,rfl⟩
 . cases lo with
   |none=>simp[sliceBounds,HT.gW]
   |some i=>
    simp only[sliceBounds,HT.gW,Option.getD_none,show(1:Int) > 0 by decide,if_true]
    by_cases h:i<0
    . simp only[h,if_true] <;> omega
    . simp only[h,if_false] <;> omega
 . cases hi with
   |none=>simp[sliceBounds,HT.gW]
   |some i=>
    simp only[sliceBounds,HT.gW,Option.getD_none,show(1:Int) > 0 by decide,if_true]
    by_cases h:i<0
    . simp only[h,if_true] <;> omega
    . simp only[h,if_false] <;> omega
theorem aa2 (its:List Value)(lo hi:Option Int):slicePick its.toArray lo hi none=((its.drop (HT.gW its.length 0 lo)).take (HT.gW its.length its.length hi - HT.gW its.length 0 lo)).toArray:=by
 obtain⟨h1,h2,h3⟩:=aa1 lo hi its.toArray.size
 unfold slicePick
 rw[h1,h2,h3]
 simp only[sliceRange_one,pick_run,List.size_toArray] <;> rfl
noncomputable def aa3 (K:W.Frag):V->Option Int->Option Int->Hp->VK->Prop:=λx lo hi H Q=>∃a xs,x=.ref a/\aq K H a xs/\∀p,H p=none->Q (.ref p) (upd H p (.lst (mV xs lo hi)))
theorem Cd:B_ X (aa3 X.K):=by
 intro pins s σ H x v vl vu lo hi sl Q I rx hs pl pu h
 obtain⟨a,xs,rfl,hx,q⟩:=h
 cases rx
 obtain⟨its,r,ht,hz⟩:=I.list hx
 have hlen:=r.length
 refine⟨"list",_,slot_list_getitem.lookup,ht.isList.typeIs,?_⟩
 refine wpAny_getItem_list_slice ht.isList hs pl pu .none (by simp) ?_ (by rw[List.size_toArray] <;> omega)
 rw[aa2,<-hlen]
 refine⟨.ref s.heap.objs.size,_,I.laid (t':=s.toks) (o:=.lst (mV xs lo hi)) (λb ob q=>Heap.get?_push_of_some _ q) (Nat.le_refl _) ?_,rfl,q _ (I.hok.fresh (Nat.le_refl _))⟩
 exact⟨Nat.le_trans (aaU xs lo hi) hz,_,0,(r.drop (HT.gW xs.length 0 lo)).take (HT.gW xs.length xs.length hi - HT.gW xs.length 0 lo),Heap.get?_push_size _ rfl⟩
theorem gG:eZ X (.builtin "len") (λxs H Q=>∃p ys,xs=[.ref p]/\(aq X.K H p ys\/aN X.K H p ys)/\Q (.int ys.length) H):=by
 intro pins s σ H xs us Q I r h
 obtain⟨p,ys,rfl,hq,q⟩:=h
 obtain⟨u,rfl,rx⟩:=vals1 r
 cases rx
 have hn:=qK
 rcases hq with hq|hq
 . obtain⟨its,r',pl,hz⟩:=I.list hq
   have hlen:=r'.length
   exact Calls.call_len_list pl.isList (by simp only[List.size_toArray] <;> omega) ⟨.int ys.length,H,I.tok _,⟨s.toks+1,by rw[List.size_toArray,hlen]⟩,q⟩
 . obtain⟨its,r',pl,hz⟩:=I.tuple hq
   have hlen:=r'.length
   exact len_tuple pl (by simp only[List.size_toArray] <;> omega) ⟨.int ys.length,H,I.tok _,⟨s.toks+1,by rw[List.size_toArray,hlen]⟩,q⟩
theorem aa4:eZ X (.builtin "len") (λxs H Q=>∃z,xs=[.str z]/\z.length<=sizeLine/\Q (.int z.length) H):=by
 intro pins s σ H xs us Q I r h
 obtain⟨z,rfl,hz,q⟩:=h
 obtain⟨u,rfl,t,rfl⟩:=vals1 r
 have hn:=qK
 exact len_str (by omega) ⟨.int z.length,H,I.tok _,⟨_,rfl⟩,q⟩
theorem aa5:eZ X (.type "list") (λxs H Q=>∃p ys,xs=[.ref p]/\(aq X.K H p ys\/aN X.K H p ys)/\∀l,H l=none->Q (.ref l) (upd H l (.lst ys))):=by
 intro pins s σ H xs us Q I r h
 obtain⟨p,ys,rfl,hq,q⟩:=h
 obtain⟨u,rfl,rx⟩:=vals1 r
 cases rx
 have fin:∀(its:List Value),Vals ys its->ys.length<=sizeLine->∀(h':Heap) (c':Nat),(∀b o',s.heap.get? b=some o'->h'.get? b=some o')->
  h'.get? s.heap.objs.size=some { cls:=.type "list",dict:=none,data:=.seq its.toArray c',slots:=#[] }->EP X pins σ Q (.ref s.heap.objs.size) { s with heap:=h' }:=λits r' hz h' c' kp e=>
  ⟨.ref s.heap.objs.size,_,I.laid (t':=s.toks) kp (Nat.le_refl _) (show cM X.prog X.w _ h' _ (.lst ys) from⟨hz,its,c',r',e⟩),rfl,q _ (I.hok.fresh (Nat.le_refl _))⟩
 rcases hq with hq|hq
 . obtain⟨its,r',pl,hz⟩:=I.list hq
   have hlen:=r'.length
   obtain⟨o,ho,hc,n,hd⟩:=pl.isList
   exact call_list_seq p (.inl rfl) ho hc hd (λh' c' kp e=>fin its r' hz h' c' kp e) (by simp only[List.size_toArray] <;> omega)
 . obtain⟨its,r',pl,hz⟩:=I.tuple hq
   have hlen:=r'.length
   obtain⟨o,ho,hc,n,hd⟩:=pl
   exact call_list_seq p (.inr rfl) ho hc hd (λh' c' kp e=>fin its r' hz h' c' kp e) (by simp only[List.size_toArray] <;> omega)
theorem aa6:eZ X (.type "tuple") (λxs H Q=>∃p ys,xs=[.ref p]/\((aq X.K H p ys/\∀l,H l=none->Q (.ref l) (upd H l (.tup ys)))\/(aN X.K H p ys/\Q (.ref p) H))):=by
 intro pins s σ H xs us Q I r h
 obtain⟨p,ys,rfl,h⟩:=h
 obtain⟨u,rfl,rx⟩:=vals1 r
 cases rx
 rcases h with⟨hq,q⟩|⟨hq,q⟩
 . obtain⟨its,r',pl,hz⟩:=I.list hq
   have hlen:=r'.length
   refine call_tuple_list pl.isList (λh' kp=>?_) (by simp only[List.size_toArray] <;> omega)
   have I1:Inv X pins σ H { s with heap:=h' }:=I.kept (t':=s.toks) kp
   have I2:Inv X pins σ (upd H h'.objs.size (.tup ys)) { s with heap:=h'.push { cls:=.type "tuple",data:=.seq its.toArray } }:=
    I1.laid (t':=s.toks) (λb o e=>Heap.get?_push_of_some _ e) (Nat.le_refl _) (show cM X.prog X.w _ _ _ (.tup ys) from⟨hz,its,r',IsTup.new _ _⟩)
   exact⟨.ref h'.objs.size,_,I2,rfl,q _ (I1.hok.fresh (Nat.le_refl _))⟩
 . obtain⟨its,r',pl,hz⟩:=I.tuple hq
   exact call_tuple_same pl ⟨.ref p,H,I,rfl,q⟩
noncomputable def Cg (K:W.Frag) (T:String) (x:V) (H:Hp):Prop:=match x with
 | .str _=>T="str"
 | .int _=>T="int"
 | .ref p=>(T="list"/\∃xs,aq K H p xs)\/(T="tuple"/\∃o,K.lookup p=some o/\o.cls=.type "tuple"/\o.dict=none)\/
    (T="dict"/\((∃kvs,H p=some (.dK kvs))\/∃kvs,H p=some (.dT kvs)))\/(T="set"/\∃S n,H p=some (.set S n))
 |_=>False
theorem PN {pins:List (Addr × Obj)}{σ:St}{H:Hp}{s:Shared}{T:String}{x:V}{v:Value}(I:Inv X pins σ H s)(r:RelV x v)(ty:Cg X.K T x H):
 s.TypeIs v T/\∀a,v=.ref a->∃ob,s.heap.get? a=some ob/\ob.dict=none:=by
 cases x with
 |str z=>
  obtain⟨t,rfl⟩:=r
  cases(show T="str" from ty)
  exact⟨typeIs_str s z t,λ_ e=>nomatch e⟩
 |int i=>
  obtain⟨t,rfl⟩:=r
  cases(show T="int" from ty)
  exact⟨typeIs_int s i t,λ_ e=>nomatch e⟩
 |ref p=>
  cases r
  rcases ty with⟨rfl,xs,hq⟩|⟨rfl,o,hk,hc,hd⟩|⟨rfl,hk⟩|⟨rfl,S,n,hk⟩
  . obtain⟨its,_,pl,_⟩:=I.list hq
    refine⟨pl.isList.typeIs,λa e=>?_⟩
    cases e
    obtain⟨o,n,e,c,hd,_⟩:=pl
    exact⟨o,e,hd⟩
  . refine⟨⟨o,I.cN p o hk,hc⟩,λa e=>?_⟩
    cases e
    exact⟨o,I.cN _ o hk,hd⟩
  . have z:∃o,s.heap.get? p=some o/\o.ExactDict:=by
     rcases hk with⟨kvs,hk⟩|⟨kvs,hk⟩
     . obtain⟨_,_,_,_,o,_,_,e,ex,_⟩:=I.hok p _ hk
       exact⟨o,e,ex⟩
     . obtain⟨_,_,_,_,o,_,_,e,ex,_⟩:=I.hok p _ hk
       exact⟨o,e,ex⟩
    obtain⟨o,e,ex⟩:=z
    refine⟨⟨o,e,ex.1⟩,λa e2=>?_⟩
    cases e2
    exact⟨o,e,ex.2.1⟩
  . obtain⟨o,_,_,_,e,ex,_⟩:=I.hok p _ hk
    refine⟨⟨o,e,ex.1⟩,λa e2=>?_⟩
    cases e2
    exact⟨o,e,ex.2.1⟩
 |_=>exact False.elim ty
noncomputable def aa7 (K:W.Frag) (T:String) (r:V->List V->Hp->VK->Prop) (to:TE):TE:=λσ H Q=>to σ H λx H1=>Cg K T x H1/\r x [] H1 Q
noncomputable def tBM (K:W.Frag) (T:String) (r:V->List V->Hp->VK->Prop) (to:TE) (t:TA):TE:=λσ H Q=>to σ H λx H1=>Cg K T x H1/\t σ H1 λxs H2=>r x xs H2 Q
variable {o e:Expr}{es:List Expr}{to:TE}{t:TA}{name:Str}{apos cpos:Pos}{T id:String}{r:V->List V->Hp->VK->Prop}
theorem aa9 (pa:PlainAttrs T)(slot:Slot T name id)(hty:typeOf (.builtin id)=pure (.type "method_descriptor"))(hm:xY X id r)(ho:PE X o to)
 (hbase:attributeBase o name X.env (eval o X.env)=eval o X.env:=by rfl) (hline:(apos.endLine == cpos.line)=true:=by rfl):PE X (.Call (.Attribute o name apos) [] [] cpos) (aa7 X.K T r to):=by
 intro pins s σ H Q I h
 refine wpAny_Call_method0_late hbase hline (aO (ho pins s σ H _ I h) λv s1 ⟨x,H1,I1,r1,ty,q1⟩=>?_)
 obtain⟨h1,h2⟩:=PN I1 r1 ty
 exact⟨T,id,pa,slot,hty,h1,h2,Calls.callWith_builtin rfl (PySem.evalArgs_none (hm pins s1 σ H1 x [] v [] Q I1 r1 .nil q1))⟩
theorem mY (pa:PlainAttrs T)(slot:Slot T name id)(hty:typeOf (.builtin id)=pure (.type "method_descriptor"))(hm:xY X id r)(ho:PE X o to)(ha:PA X (e::es) t)
 (hbase:attributeBase o name X.env (eval o X.env)=eval o X.env:=by rfl)
 (hfew:((backTo cpos (starEach (e::es) X.env)).all (λx=> !x.1) && (backToKw cpos (keywordEach [] X.env)).all (λx=>x.1.isSome)
   && decide ((e::es).length+([]:List Keyword).length+(if([]:List Keyword).isEmpty then 0 else 1)<30))=true:=by rfl)
 (hline:(apos.endLine == cpos.line)=true:=by rfl) (hs:starEach (e::es) X.env=(false,eval e X.env)::starEach es X.env:=by rfl) (hplain:(backTo cpos (starEach es X.env)).any (·.1)=false:=by rfl):
 PE X (.Call (.Attribute o name apos) (e::es) [] cpos) (tBM X.K T r to t):=by
 intro pins s σ H Q I h
 refine wpAny_Call_method_late hbase hfew hline rfl (aO (ho pins s σ H _ I h) λv s1 ⟨x,H1,I1,r1,ty,q1⟩=>?_)
 obtain⟨h1,h2⟩:=PN I1 r1 ty
 refine⟨T,id,pa,slot,hty,h1,h2,?_⟩
 have hA:=ha cpos pins s1 σ H1 _ I1 q1
 rw[hs] at hA ⊢
 refine Calls.callWith_builtin (by show(false || (backTo cpos (starEach es X.env)).any (·.1))=false;rw[hplain] <;> rfl) (Calls.evalArgs_plain ?_)
 exact aO hA λus s2 ⟨vs,H2,I2,r2,q2⟩=>hm pins s2 σ H2 x vs v us Q I2 r1 r2 q2
/- xs.append(e),list.index on a module's tuple .. are xY facts of 06m -/
end
noncomputable def xZ (X:Cx) (id:String) (r:V->List V->Hp->VK->Prop):Prop:=
 ∀(pins:List (Addr × Obj)) (s:Shared) (σ:St) (H:Hp) (x:V) (xs:List V) (v:Value) (us:List Value) (Q:VK),Inv X pins σ H s->RelV x v->Vals xs us->r x xs H Q->
  wpAny (model X.prog X.w) X.A (call (.builtin id) (v::us)) (EP X pins σ Q) X.xe s
theorem Vals.one:∀{x:V}{us:List Value},Vals [x] us->∃u,us=[u]/\RelV x u
 |_,_,.cons r .nil=>⟨_,rfl,r⟩
theorem Vals.zero:∀{us:List Value},Vals [] us->us=[]
 |_,.nil=>rfl
theorem Vals.eraseIdx:∀{xs:List V}{us:List Value}(i:Nat),Vals xs us->Vals (xs.eraseIdx i) (us.eraseIdx i)
 |_,_,_,.nil=>.nil
 |_,_,0,.cons _ t=>t
 |_,_,i+1,.cons r t=>.cons r (Vals.eraseIdx i t)
theorem PX {α:Type}:∀(l:List α) (i:Nat),(l.eraseIdx i).length<=l.length
 |[],_=>Nat.le_refl _
 |_::_,0=>Nat.le_succ _
 |_::r,i+1=>Nat.succ_le_succ (PX r i)
section
variable {X:Cx}{pins:List (Addr × Obj)}{σ:St}{H:Hp}{s:Shared}{l b:Addr}{xs ys zs:List V}
theorem Inv.yc {its its':List Value}{n:Nat}{f:Array Value->Array Value}{t':Nat}(I:Inv X pins σ H s)(hH:H l=some (.lst xs))
 (e:s.heap.get? l=some { cls:=.type "list",data:=.seq its.toArray n }) (hf:f its.toArray=its'.toArray) (hv:Vals ys its') (hz:ys.length<=sizeLine):
 Inv X pins σ (upd H l (.lst ys)) { s with heap:=s.heap.update l (Obj.mapSeq f),toks:=t' }:=by
 have q:=PySem.IsL.update e f
 rw[hf] at q
 refine I.write (x:=l) (e:=l) (by rw[hH];exact trivial) (.inl rfl) (λb' u hb hu=>(Heap.get?_update_other s.heap (Obj.mapSeq f) (Ne.symm hb)).trans hu) ⟨_,q⟩ ?_
 exact⟨hz,its',_,hv,q⟩
theorem Inv.aa_ {its:List Value}{t':Nat}(I:Inv X pins σ H s)(hv:Vals ys its)(hz:ys.length<=sizeLine):
 Inv X pins σ (upd H s.heap.objs.size (.lst ys)) { s with heap:=s.heap.push { cls:=.type "list",data:=.seq its.toArray },toks:=t' }:=
 I.laid (λ_ _ q=>Heap.get?_push_of_some _ q) (Nat.le_refl _) ⟨hz,its,0,hv,Heap.get?_push_size _ rfl⟩
theorem Inv.fresh (I:Inv X pins σ H s):H s.heap.objs.size=none:=I.hok.fresh (Nat.le_refl _)
theorem Inv.qP (I:Inv X pins σ H s)(hH:H l=some (.lst xs)):xs.length<=sizeLine/\∃(its:List Value) (n:Nat),Vals xs its/\xs.length=its.length/\s.heap.get? l=some { cls:=.type "list",data:=.seq its.toArray n }:=by
 obtain⟨z,its,n,r,e⟩:=I.hok l _ hH
 exact⟨z,its,n,r,r.length,e⟩
theorem abb {n:Nat}(h:n<=sizeLine):Builtin.List.listTooLong n=false:=by
 unfold Builtin.List.listTooLong
 exact decide_eq_false (by omega)
end
section
variable {X:Cx}
noncomputable def abd:V->List V->Hp->VK->Prop:=λx vs H Q=>∃l xs y,x=.ref l/\vs=[y]/\H l=some (.lst xs)/\xs.length<sizeLine/\Q .non (upd H l (.lst (xs++[y])))
theorem u6:xZ X "list.append" abd:=by
 intro pins s σ H x vs v us Q I rx rv h
 obtain⟨l,xs,y,rfl,rfl,hH,hz,q⟩:=h
 cases rx
 obtain⟨u,rfl,ru⟩:=rv.one
 obtain⟨z,its,n,r,hl,e⟩:=I.qP hH
 refine call_meets F.slot_list_append ⟨_,e,rfl⟩ F.entry_list_append (F.args_list_append_2 _ _) (PySem.list_append l its.toArray n u (by rw[List.size_toArray];omega)) ⟨e,?_⟩
 refine⟨.non,_,I.yc (its':=its++[u]) hH e (by simp) (r.append (.cons ru .nil)) ?_,rfl,q⟩
 rw[List.length_append,List.length_singleton]
 omega
noncomputable def abe:V->List V->Hp->VK->Prop:=λx vs H Q=>∃l b xs zs,x=.ref l/\vs=[.ref b]/\H l=some (.lst xs)/\H b=some (.lst zs)/\xs.length+zs.length<=sizeLine/\Q .non (upd H l (.lst (xs++zs)))
theorem abf:xZ X "list.extend" abe:=by
 intro pins s σ H x vs v us Q I rx rv h
 obtain⟨l,b,xs,zs,rfl,rfl,hH,hB,hz,q⟩:=h
 cases rx
 obtain⟨u,rfl,ru⟩:=rv.one
 cases ru
 obtain⟨z,its,n,r,hl,e⟩:=I.qP hH
 obtain⟨z2,its2,n2,r2,hl2,e2⟩:=I.qP hB
 have hsz:its.toArray.size+its2.toArray.size<=sizeLine:=by rw[List.size_toArray,List.size_toArray];omega
 have abg:¬(!its.toArray.isEmpty && Builtin.List.listTooLong (its.toArray.size+its2.toArray.size))=true:=by
  rw[abb hsz,Bool.and_false]
  exact Bool.false_ne_true
 refine call_meets F.slot_list_extend ⟨_,e,rfl⟩ F.entry_list_extend (F.args_list_extend_2 _ _)
  (AutoSeq1.list_extend_list_list_0 l its.toArray n b its2.toArray n2 abg (by rw[List.size_toArray];omega) (by omega)) ⟨e,e2,?_⟩
 refine⟨.non,_,I.yc (its':=its++its2) hH e (by simp) (r.append r2) ?_,rfl,q⟩
 rw[List.length_append]
 omega
noncomputable def abh:V->List V->Hp->VK->Prop:=λx vs H Q=>∃l xs i k y,x=.ref l/\vs=[.int i]/\H l=some (.lst xs)/\ -(2 ^ 63)<=i/\i<2 ^ 63/\seqIndex? i xs.length=some k/\xs[k]? =some y/\Q y (upd H l (.lst (xs.eraseIdx k)))
theorem P0:xZ X "list.pop" abh:=by
 intro pins s σ H x vs v us Q I rx rv h
 obtain⟨l,xs,i,k,y,rfl,rfl,hH,h1,h2,hk,hy,q⟩:=h
 cases rx
 obtain⟨u,rfl,ru⟩:=rv.one
 obtain⟨t,rfl⟩:=ru
 obtain⟨z,its,n,r,hl,e⟩:=I.qP hH
 obtain⟨w,hw,iH⟩:=r.get hy
 refine call_meets F.slot_list_pop ⟨_,e,rfl⟩ F.entry_list_pop (F.args_list_pop_2 _ _)
  (MeetsSeq.list_pop_at l its.toArray n i t k w (fitsIndex_both h1 h2) (by rw[List.size_toArray,<-hl];exact hk) (by rw[<-Array.getElem?_toList];exact hw) (by rw[List.size_toArray];omega)) ⟨e,?_⟩
 refine⟨y,_,I.yc (its':=its.eraseIdx k) hH e ?_ (r.eraseIdx k) ?_,iH,q⟩
 . show its.toArray.eraseIdxIfInBounds k=(its.eraseIdx k).toArray
   rw[List.eraseIdxIfInBounds_toArray]
 . have:=PX xs k
   omega
noncomputable def abj:V->List V->Hp->VK->Prop:=λx vs H Q=>∃l xs,x=.ref l/\vs=[]/\H l=some (.lst xs)/\Q .non (upd H l (.lst []))
theorem abk:xZ X "list.clear" abj:=by
 intro pins s σ H x vs v us Q I rx rv h
 obtain⟨l,xs,rfl,rfl,hH,q⟩:=h
 cases rx
 have hus:=rv.zero
 subst hus
 obtain⟨z,its,n,r,hl,e⟩:=I.qP hH
 refine call_meets F.slot_list_clear ⟨_,e,rfl⟩ F.entry_list_clear (F.args_list_clear_1 _) (AutoSeq1.list_clear_list_0 l its.toArray n (by rw[List.size_toArray];omega)) ⟨e,?_⟩
 exact⟨.non,_,I.yc (its':=[]) (ys:=[]) hH e rfl .nil (Nat.zero_le _),rfl,q⟩
noncomputable def abl:R2:=λx y H Q=>∃l b xs zs,x=.ref l/\y=.ref b/\H l=some (.lst xs)/\H b=some (.lst zs)/\xs.length+zs.length<=sizeLine/\∀p,H p=none->Q (.ref p) (upd H p (.lst (xs++zs)))
theorem Ci:dJ X (binaryOp .Add) abl:=by
 intro pins s σ H x y v u Q I rx ry h
 obtain⟨l,b,xs,zs,rfl,rfl,hH,hB,hz,q⟩:=h
 cases rx
 cases ry
 obtain⟨z,its,n,r,hl,e⟩:=I.qP hH
 obtain⟨z2,its2,n2,r2,hl2,e2⟩:=I.qP hB
 refine PySem.P.add_list e e2 ?_ (by rw[List.size_toArray,List.size_toArray];omega)
 have ea:its.toArray++its2.toArray=(its++its2).toArray:=by simp
 rw[ea]
 exact⟨.ref _,_,I.aa_ (t':=s.toks) (r.append r2) (by rw[List.length_append];omega),rfl,q _ I.fresh⟩
end
section
variable {prog:Program}{w:World}{A:Around}{E:Value->Shared->Prop}{s:Shared}
end
section
variable {X:Cx}
end
section
variable {κ:Type} [DecidableEq κ]
noncomputable def dH (kvs:List (κ × V)) (k:κ):Option V:=(kvs.find? λkv=>decide (kv.1=k)).map (·.2)
noncomputable def putK (kvs:List (κ × V)) (k:κ) (v:V):List (κ × V):=
 if(kvs.any λkv=>decide (kv.1=k))=true then kvs.map (λkv=>if kv.1=k then(kv.1,v) else kv) else kvs++[(k,v)]
noncomputable def mZ (kvs:List (κ × V)) (k:κ):List (κ × V):=kvs.filter λkv=>decide (kv.1≠k)
theorem lN {p:κ × V}{r:List (κ × V)}{k:κ}(e:p.1=k):dH (p::r) k=some p.2:=by simp[dH,List.find?_cons,e]
theorem iR {p:κ × V}{r:List (κ × V)}{k:κ}(e:¬p.1=k):dH (p::r) k=dH r k:=by simp[dH,List.find?_cons,e]
theorem yd (k:κ):∀kvs:List (κ × V),(kvs.any λkv=>decide (kv.1=k))=(dH kvs k).isSome
 |[]=>rfl
 |p::r=>by
  rw[List.any_cons]
  by_cases e:p.1=k
  . simp only[lN e,decide_eq_true e,Bool.true_or,Option.isSome_some]
  . rw[iR e,decide_eq_false e,Bool.false_or];exact yd k r
theorem Cj (kvs:List (κ × V))(k:κ)(v:V):(putK kvs k v).length<=kvs.length+1:=by
 unfold putK
 split
 . rw[List.length_map];omega
 . rw[List.length_append,List.length_cons,List.length_nil];omega
theorem gA.u9 {o:Option V}{u:Option Value}(r:gA o u):o.isSome=u.isSome:=by
 cases o with
 |none=>cases u with
  |none=>rfl
  |some _=>exact(show False from r).elim
 |some _=>cases u with
  |none=>exact(show False from r).elim
  |some _=>rfl
theorem KV.val {kvs:List (κ × V)}{vs:List (κ × Value)}(r:KV kvs vs)(k:κ):gA (dH kvs k) (valueAt vs k):=by
 unfold KV at r
 induction r with
 |nil=>exact True.intro
 |@cons p q ps qs h t ih=>
  obtain⟨h1,h2⟩:=h
  by_cases e:p.1=k
  . have e':q.1=k:=h1.symm.trans e
    have b:valueAt (q::qs) k=some q.2:=by simp[valueAt,List.find?_cons,e']
    rw[lN e,b];exact h2
  . have e':¬q.1=k:=λz=>e (h1.trans z)
    have b:valueAt (q::qs) k=valueAt qs k:=by simp[valueAt,List.find?_cons,e']
    rw[iR e,b];exact ih
theorem KV.any {kvs:List (κ × V)}{vs:List (κ × Value)}(r:KV kvs vs)(k:κ):(kvs.any λkv=>decide (kv.1=k))=vs.any λkv=>decide (kv.1=k):=by
 unfold KV at r
 induction r with
 |nil=>rfl
 |cons h t ih=>rw[List.any_cons,List.any_cons,ih,h.1]
theorem KV.repl {kvs:List (κ × V)}{vs:List (κ × Value)}(r:KV kvs vs)(k:κ){y:V}{u:Value}(ry:RelV y u):
 KV (kvs.map λkv=>if kv.1=k then(kv.1,y) else kv) (vs.map λkv=>if kv.1=k then(kv.1,u) else kv):=by
 unfold KV at r ⊢
 induction r with
 |nil=>exact .nil
 |@cons p q ps qs h t ih=>
  rw[List.map_cons,List.map_cons]
  refine .cons ?_ ih
  obtain⟨h1,h2⟩:=h
  by_cases e:p.1=k
  . rw[if_pos e,if_pos (h1.symm.trans e)];exact⟨h1,ry⟩
  . rw[if_neg e,if_neg (λz=>e (h1.trans z))];exact⟨h1,h2⟩
theorem KV.put {kvs:List (κ × V)}{vs:List (κ × Value)}(r:KV kvs vs)(k:κ){y:V}{u:Value}(ry:RelV y u):KV (putK kvs k y) (stored vs k u):=by
 unfold putK stored
 rw[r.any k]
 by_cases e:(vs.any λkv=>decide (kv.1=k))=true
 . rw[if_pos e,if_pos e];exact r.repl k ry
 . rw[if_neg e,if_neg e];exact Paired.snoc r ⟨rfl,ry⟩
theorem KV.drop {kvs:List (κ × V)}{vs:List (κ × Value)}(r:KV kvs vs)(k:κ):KV (mZ kvs k) (without vs k):=by
 unfold KV at r ⊢
 unfold mZ without
 induction r with
 |nil=>exact .nil
 |@cons p q ps qs h t ih=>
  obtain⟨h1,h2⟩:=h
  rw[List.filter_cons,List.filter_cons]
  by_cases e:p.1=k
  . have a:¬decide (p.1≠k)=true:=by simp[e]
    have b:¬decide (q.1≠k)=true:=by simp[h1.symm.trans e]
    rw[if_neg a,if_neg b];exact ih
  . have e':¬q.1=k:=λz=>e (h1.trans z)
    have a:decide (p.1≠k)=true:=by simp[e]
    have b:decide (q.1≠k)=true:=by simp[e']
    rw[if_pos a,if_pos b];exact .cons ⟨h1,h2⟩ ih
theorem KV.length {kvs:List (κ × V)}{vs:List (κ × Value)}(r:KV kvs vs):kvs.length=vs.length:=Paired.length r
theorem abm (kvs:List (κ × V))(k:κ):(mZ kvs k).length<=kvs.length:=List.length_filter_le _ _
end
theorem qQ {P:Program}{w:World}{k:Key}{u:Value}(r:RelV (kV k) u):(cQ P w).is k u=true:=by
 cases k with
 |inl i=>obtain⟨t,e⟩:=(show ∃t,u=Value.int i t from r);subst e;exact ZM P w i t
 |inr x=>obtain⟨t,e⟩:=(show ∃t,u=Value.str x t from r);subst e;exact ZP P w x t
theorem P_ {P:Program}{w:World}:∀{ks:List Key}{us:List Value},Vals (ks.map kV) us->ItemsAre (cQ P w) ks us
 |[],_,r=>by rw[List.map_nil] at r;cases r;exact .nil
 |k::ks,_,r=>by
  rw[List.map_cons] at r
  cases r with
  |cons h t=>exact .cons (qQ h) (P_ t)
noncomputable abbrev KT (H:Hp):List (List Key × V)->List (List Key × Addr × Value)->Prop:=Paired λp q=>p.1=q.1/\H q.2.1=some (.tup (p.1.map kV))/\RelV p.2 q.2.2
theorem KT.val {H:Hp}{kvs:List (List Key × V)}{xs:List (List Key × Addr × Value)}(r:KT H kvs xs)(k:List Key):gA (dH kvs k) ((atKey xs k).map (·.2)):=by
 induction r with
 |nil=>exact True.intro
 |@cons p q ps qs h t ih=>
  obtain⟨h1,_,h2⟩:=h
  by_cases e:p.1=k
  . have e':q.1=k:=h1.symm.trans e
    have b:atKey (q::qs) k=some q.2:=by simp[atKey,List.find?_cons,e']
    rw[lN e,b];exact h2
  . have e':¬q.1=k:=λz=>e (h1.trans z)
    have b:atKey (q::qs) k=atKey qs k:=by simp[atKey,List.find?_cons,e']
    rw[iR e,b];exact ih
theorem KT.repl {H:Hp}{kvs:List (List Key × V)}{xs:List (List Key × Addr × Value)}(r:KT H kvs xs)(k:List Key){y:V}{u:Value}(ry:RelV y u):
 KT H (kvs.map λkv=>if kv.1=k then(kv.1,y) else kv) (xs.map (putAt k u)):=by
 induction r with
 |nil=>exact .nil
 |@cons p q ps qs h t ih=>
  rw[List.map_cons,List.map_cons]
  refine .cons ?_ ih
  obtain⟨h1,h2,h3⟩:=h
  unfold putAt
  by_cases e:p.1=k
  . rw[if_pos e,if_pos (h1.symm.trans e)];exact⟨h1,h2,ry⟩
  . rw[if_neg e,if_neg (λz=>e (h1.trans z))];exact⟨h1,h2,h3⟩
theorem KT.put {H:Hp}{kvs:List (List Key × V)}{xs:List (List Key × Addr × Value)}(r:KT H kvs xs)(k:List Key){b:Addr}{y:V}{u:Value}(hb:H b=some (.tup (k.map kV)))(ry:RelV y u):
 KT H (putK kvs k y) (storedH xs k b u):=by
 have e:(kvs.any λkv=>decide (kv.1=k))=(atKey xs k).isSome:=by
  rw[yd,(r.val k).u9,Option.isSome_map]
 unfold putK storedH
 rw[e]
 by_cases q:(atKey xs k).isSome=true
 . rw[if_pos q,if_pos q];exact r.repl k ry
 . rw[if_neg q,if_neg q];exact Paired.snoc r ⟨rfl,hb,ry⟩
theorem KT.keeps {H H':Hp}{kvs:List (List Key × V)}{xs:List (List Key × Addr × Value)}(r:KT H kvs xs)(ht:∀b ys,H b=some (.tup ys)->H' b=some (.tup ys)):KT H' kvs xs:=
 Paired.Bh r λ_ _ z=>⟨z.1,ht _ _ z.2.1,z.2.2⟩
section
variable {P:Program}{w:World}{H:Hp}{h:Heap}{a:Addr}
theorem Qa {u:HO}(ok:cF P w H h)(e:Rd H a u):cM P w H h a u:=e.ok ok
theorem rU {kvs:List (Key × V)}(ok:cF P w H h)(e:Rd H a (.dK kvs)):kvs.length<=sizeLine/\(a == sysModules)=false/\∃vs,KV kvs vs/\h.DictOf (cQ P w) a vs:=
 show cM P w H h a (.dK kvs) from Qa ok e
theorem yg {kvs:List (Key × V)}(ok:cF P w H h)(e:H a=some (.dK kvs)):kvs.length<=sizeLine/\(a == sysModules)=false/\∃vs,KV kvs vs/\h.DictOf (cQ P w) a vs:=rU ok (.inl e)
theorem u_ {ks:List Key}(ok:cF P w H h)(e:H a=some (.tup (ks.map kV))):(tupleKind (cQ P w)).is h ks a:=by
 obtain⟨_,its,r,o,h1,h2,n,h3⟩:=(show cM P w H h a (.tup (ks.map kV)) from ok a _ e)
 exact⟨o,its.toArray,n,h1,h2,h3,by simpa using P_ r⟩
theorem vd {kvs:List (List Key × V)}(ok:cF P w H h)(e:Rd H a (.dT kvs)):kvs.length<=sizeLine/\(a == sysModules)=false/\
 ∃xs,KT H kvs xs/\h.DictOfH (tupleKind (cQ P w)) a xs:=by
 obtain⟨z,y,xs,r,o,es,ep,h1,h2,h3,h4,h5⟩:=(show cM P w H h a (.dT kvs) from Qa ok e)
 refine⟨z,y,xs,r,o,es,ep,h1,h2,h3,h4,λx hx=>?_,h5⟩
 have all:∀{l:List (List Key × V)} {m:List (List Key × Addr × Value)},KT H l m->∀x∈m,(tupleKind (cQ P w)).is h x.1 x.2.1:=by
  intro l m q
  induction q with
  |nil=>intro x hx;exact nomatch hx
  |@cons p q ps qs hq t ih=>
   intro x hx
   rcases List.mem_cons.mp hx with e|hx
   . subst e
     exact u_ ok (by rw[<-hq.1];exact hq.2.1)
   . exact ih x hx
 exact all r x hx
theorem abn {kvs:List (List Key × V)}(ok:cF P w H h)(e:H a=some (.dT kvs)):kvs.length<=sizeLine/\(a == sysModules)=false/\
 ∃xs,KT H kvs xs/\h.DictOfH (tupleKind (cQ P w)) a xs:=vd ok (.inl e)
end
noncomputable def cC (H:Hp) (a:Addr) (y:V) (r:Option V):Prop:=
 (∃kvs k,Rd H a (.dK kvs)/\y=kV k/\r=dH kvs k)\/∃kvs k b,Rd H a (.dT kvs)/\y=.ref b/\H b=some (.tup (k.map kV))/\r=dH kvs k
noncomputable def jH (H:Hp) (a:Addr) (y v:V) (H':Hp):Prop:=
 (∃kvs k,H a=some (.dK kvs)/\y=kV k/\kvs.length<sizeLine/\H'=upd H a (.dK (putK kvs k v)))\/
 ∃kvs k b,H a=some (.dT kvs)/\y=.ref b/\H b=some (.tup (k.map kV))/\kvs.length<sizeLine/\H'=upd H a (.dT (putK kvs k v))
theorem cC.k {H:Hp}{a:Addr}{kvs:List (Key × V)}{k:Key}(e:H a=some (.dK kvs)):cC H a (kV k) (dH kvs k):=.inl ⟨kvs,k,.inl e,rfl,rfl⟩
theorem jH.k {H:Hp}{a:Addr}{kvs:List (Key × V)}{k:Key}{v:V}(e:H a=some (.dK kvs))(hl:kvs.length<sizeLine):jH H a (kV k) v (upd H a (.dK (putK kvs k v))):=.inl ⟨kvs,k,e,rfl,hl,rfl⟩
section
variable {X:Cx}{pins:List (Addr × Obj)}{σ:St}{H:Hp}{s:Shared}{a:Addr}{y v:V}{u r:Value}{o:Option V}{A:Around}{E:Value->Shared->Prop}
theorem Inv.big (I:Inv X pins σ H s):sysModules<s.heap.objs.size:=by
 have h:mainGlobals<s.heap.objs.size:=(I.mod.glob.keeps I.bk).lt
 exact Nat.lt_trans (by decide) h
theorem abo {Q:Value->Shared->Prop}(hu:A.units+1<cLine)(I:Inv X pins σ H s)(g:cC H a y (some v))(ry:RelV y u)(h:∀w' s',Inv X pins σ H s'->RelV v w'->Q w' s'):
 wpAny (model X.prog X.w) A (getItem (.ref a) u) Q E s:=by
 rcases g with⟨kvs,k,e,ey,l⟩|⟨kvs,k,b,e,ey,eb,l⟩
 . subst ey
   obtain⟨z,hd,vs,rel,dd⟩:=rU I.hok e
   obtain⟨w',hw,iH⟩:=gA.some_of (v:=v) (o:=valueAt vs k) (by rw[l];exact rel.val k)
   exact wpAny_getItem_of (qQ ry) dd.mapOf hw (h w' _ (I.tok _) iH)
 . subst ey
   cases(show u=Value.ref b from ry)
   obtain⟨z,hd,xs,rel,dd⟩:=vd I.hok e
   obtain⟨w',hw,iH⟩:=gA.some_of (v:=v) (o:=(atKey xs k).map (·.2)) (by rw[l];exact rel.val k)
   obtain⟨p,hp,hp2⟩:=Option.map_eq_some_iff.mp hw
   refine wpAny_getItem_heap (tupleKind_room_in1 hu) (u_ I.hok eb) dd hp ?_
   rw[hp2]
   exact h w' _ (I.tok _) iH
theorem abp {Q:Value->Shared->Prop}(hu:A.units+1<cLine)(I:Inv X pins σ H s)(g:cC H a y o)(ry:RelV y u)(h:∀s',Inv X pins σ H s'->Q (.bool o.isSome) s'):
 wpAny (model X.prog X.w) A (compareOp .In u (.ref a)) Q E s:=by
 rcases g with⟨kvs,k,e,ey,l⟩|⟨kvs,k,b,e,ey,eb,l⟩
 . subst ey
   obtain⟨z,hd,vs,rel,dd⟩:=rU I.hok e
   refine wpAny_in_of (qQ ry) hd dd.mapOf ?_
   rw[<-(rel.val k).u9,<-l]
   exact h _ (I.tok _)
 . subst ey
   cases(show u=Value.ref b from ry)
   obtain⟨z,hd,xs,rel,dd⟩:=vd I.hok e
   refine wpAny_in_heap (tupleKind_room_in1 hu) (u_ I.hok eb) hd dd ?_
   have q:=(rel.val k).u9
   rw[Option.isSome_map] at q
   rw[<-q,<-l]
   exact h _ (I.tok _)
theorem abq {Q:Value->Shared->Prop}(hu:A.units+1<cLine)(I:Inv X pins σ H s)(g:cC H a y o)(ry:RelV y u)(h:∀s',Inv X pins σ H s'->Q (.bool (!o.isSome)) s'):
 wpAny (model X.prog X.w) A (compareOp .NotIn u (.ref a)) Q E s:=by
 rcases g with⟨kvs,k,e,ey,l⟩|⟨kvs,k,b,e,ey,eb,l⟩
 . subst ey
   obtain⟨z,hd,vs,rel,dd⟩:=rU I.hok e
   refine wpAny_notIn_of (qQ ry) hd dd.mapOf ?_
   rw[<-(rel.val k).u9,<-l]
   exact h _ (I.tok _)
 . subst ey
   cases(show u=Value.ref b from ry)
   obtain⟨z,hd,xs,rel,dd⟩:=vd I.hok e
   refine wpAny_notIn_heap (tupleKind_room_in1 hu) (u_ I.hok eb) hd dd ?_
   have q:=(rel.val k).u9
   rw[Option.isSome_map] at q
   rw[<-q,<-l]
   exact h _ (I.tok _)
theorem yh {h':Heap}{t':Nat}{ob:HO}(I:Inv X pins σ H s)(mu:uH (H a))(hs:Heap.SameBut a s.heap h')(he:∃q,h'.get? a=some q)(new:cM X.prog X.w (upd H a ob) h' a ob):
 Inv X pins σ (upd H a ob) { s with heap:=h',toks:=t' }:=
 I.write (x:=a) (e:=a) mu (.inl rfl) (λb q hb z=>(hs.2 b hb).trans z) he new
theorem Ck {P:Program}{w:World}{H':Hp}{h':Heap}{kvs:List (Key × V)}{vs:List (Key × Value)}(z:kvs.length<=sizeLine)(hd:(a == sysModules)=false)(rel:KV kvs vs)(dd:h'.DictOf (cQ P w) a vs):
 cM P w H' h' a (.dK kvs):=⟨z,hd,vs,rel,dd⟩
theorem abr {H':Hp}{Q:Unit->Shared->Prop}(hu:A.units+1<cLine)(I:Inv X pins σ H s)(g:jH H a y v H')(ry:RelV y u)(rv:RelV v r)(h:∀s',Inv X pins σ H' s'->Q () s'):
 wpAny (model X.prog X.w) A (setItem (.ref a) u r) Q E s:=by
 rcases g with⟨kvs,k,e,ey,l,eH⟩|⟨kvs,k,b,e,ey,eb,l,eH⟩
 . subst ey eH
   obtain⟨z,hd,vs,rel,dd⟩:=yg I.hok e
   have hz:vs.length<=sizeLine:=by rw[<-rel.length];exact z
   have hl:(putK kvs k v).length<=sizeLine:=by have:=Cj kvs k v;omega
   refine wpAny_setItem_pairs (hsz:=hz) (qQ ry) dd λh' lO hs=>h _ ?_
   have he:∃q,h'.get? a=some q:=let⟨q,_,_,hq,_⟩:=lO;⟨q,hq⟩
   exact yh I (by rw[e];exact True.intro) hs he (Ck hl hd (rel.put k rv) lO)
 . subst ey eH
   cases(show u=Value.ref b from ry)
   obtain⟨z,hd,xs,rel,dd⟩:=abn I.hok e
   have hz:xs.length<=sizeLine:=by rw[<-Paired.length rel];exact z
   have hl:(putK kvs k v).length<=sizeLine:=by have:=Cj kvs k v;omega
   refine wpAny_setItem_heap (hsz:=hz) (tupleKind_room_in1 hu) (u_ I.hok eb) dd λh' lO hs=>h _ ?_
   obtain⟨q,es,ep,hq,h2,h3,h4,_,h5⟩:=lO
   refine yh I (by rw[e];exact True.intro) hs ⟨q,hq⟩ ⟨hl,hd,_,(rel.put k eb rv).keeps λc ys ec=>?_,q,es,ep,hq,h2,h3,h4,h5⟩
   rw[au (jV ec e (λz=>nomatch z))]
   exact ec
end
section
variable {X:Cx}{pins:List (Addr × Obj)}{σ:St}{H:Hp}{s:Shared}{a:Addr}{kvs:List (Key × V)}{k:Key}{u:Value}{A:Around}{E:Value->Shared->Prop}
theorem abt {v:V}{more:List Value}{Q:Value->Shared->Prop}(I:Inv X pins σ H s)(e:H a=some (.dK kvs))(ry:RelV (kV k) u)(l:dH kvs k=some v)(hm:more=[]\/∃x,more=[x])
 (h:∀w' s',Inv X pins σ (upd H a (.dK (mZ kvs k))) s'->RelV v w'->Q w' s'):wpAny (model X.prog X.w) A (call (.builtin "dict.pop") (.ref a::u::more)) Q E s:=by
 obtain⟨z,hd,vs,rel,dd⟩:=yg I.hok e
 obtain⟨w',hw,iH⟩:=gA.some_of (v:=v) (o:=valueAt vs k) (by rw[<-l];exact rel.val k)
 have hp:(keyPart u).isSome=true:=by
  cases k with
  |inl i=>obtain⟨t,q⟩:=(show ∃t,u=Value.int i t from ry);subst q;rfl
  |inr x=>obtain⟨t,q⟩:=(show ∃t,u=Value.str x t from ry);subst q;rfl
 have ha:argsOk "dict.pop" ⟨.ref a::u::more,[]⟩:=by
  rcases hm with q|⟨x,q⟩
  . subst q;exact PySem.F.args_dict_pop_2 _ _
  . subst q;exact PySem.F.args_dict_pop_3 _ _ _
 refine call_meetsIn PySem.F.slot_dict_pop dd.typeIs PySem.F.entry_dict_pop ha (meets_dict_pop_there (cQ X.prog X.w) a (qQ ry) more hm hp)
  ⟨vs,w',dd,by rw[<-rel.length];exact z,hw,λh' lO hs=>h w' _ ?_ iH⟩
 have he:∃q,h'.get? a=some q:=let⟨q,_,_,hq,_⟩:=lO;⟨q,hq⟩
 exact yh I (by rw[e];exact True.intro) hs he (Ck (Nat.le_trans (abm kvs k) z) hd (rel.drop k) lO)
theorem abu {Q:Value->Shared->Prop}(I:Inv X pins σ H s)(e:Rd H a (.dK kvs))(h:∀t s',Inv X pins σ H s'->Q (.int kvs.length t) s'):wpAny (model X.prog X.w) A (call (.builtin "len") [.ref a]) Q E s:=by
 obtain⟨z,hd,vs,rel,dd⟩:=rU I.hok e
 refine call_len_dict hd dd (by rw[<-rel.length];rw[sizeLine_eq] at z;omega) ?_
 rw[<-rel.length]
 exact h _ _ (I.tok _)
end
noncomputable def Qc (i:Expr):Prop:=∀ov iv,subscripted i false ov iv=operate [ov,iv] (getItem ov iv)
theorem abv {prog:Program}{w:World}{A:Around}{E:Value->Shared->Prop}{s:Shared}{env:Env}{value slice:Expr}{pos:Pos}{T id:String}{Q:Value->Shared->Prop}
 (hl:typeLookup (.type T) "__getitem__"=pure (some (.builtin id))) (hs:Qc slice)
 (h:wpAny (model prog w) A (eval value env) (λo s₁=>wpAny (model prog w) A (eval slice env) (λi s₂=>s₂.TypeIs o T/\wpAny (model prog w) A (getItem o i) Q E s₂) E s₁) E s):
 wpAny (model prog w) A (eval (.Subscript value slice pos) env) Q E s:=by
 refine Subscript_ (wpAny_mono h (λo s₁ h₁=>wpAny_mono h₁ (λi s₂ h₂=>?_) λ_ _ x=>x) λ_ _ x=>x)
 obtain⟨hT,h₂⟩:=h₂
 unfold subscriptTail
 refine wpAny_bind ?_
 rw[getitemInPython_of_ne hT.not_modules]
 refine wpAny_bind (wpAny_specialOf hT hl ?_)
 have fin:wpAny (model prog w) A (subscripted slice false o i) (λr s₃=>wpAny (model prog w) A (letTemporaryGo value o r >>= λ_=>pure r) Q E s₃) E s₂:=by
  rw[hs o i]
  exact wpAny_operating (wpAny_mono h₂ (λr s₃ h₃=>wpAny_bind (wpAny_letTemporaryGo (wpAny_pure h₃))) λ_ _ x=>x)
 first
  |exact wpAny_pure (wpAny_bind fin)
  |exact wpAny_bind (wpAny_pure (wpAny_bind fin))
  |exact wpAny_bind fin
theorem abw {X:Cx}{pins:List (Addr × Obj)}{σ:St}{H:Hp}{s:Shared}{a:Addr}{y:V}{o:Option V}(I:Inv X pins σ H s)(g:cC H a y o):s.TypeIs (.ref a) "dict":=by
 rcases g with⟨kvs,k,e,_,_⟩|⟨kvs,k,b,e,_,_,_⟩
 . obtain⟨_,_,vs,_,dd⟩:=rU I.hok e
   exact dd.typeIs
 . obtain⟨_,_,xs,_,dd⟩:=vd I.hok e
   exact dd.typeIs
noncomputable def abx (td ty:TE):TE:=λσ H Q=>td σ H λx H1=>ty σ H1 λy H2=>∃a v,x=.ref a/\cC H2 a y (some v)/\Q v H2
noncomputable def aby (ty td:TE):TE:=λσ H Q=>ty σ H λy H1=>td σ H1 λx H2=>∃a o,x=.ref a/\cC H2 a y o/\Q (.bl o.isSome) H2
noncomputable def abz (ty td:TE):TE:=λσ H Q=>ty σ H λy H1=>td σ H1 λx H2=>∃a o,x=.ref a/\cC H2 a y o/\Q (.bl (!o.isSome)) H2
noncomputable def abA (td ty tv:TE):TS:=λD σ H=>tv σ H λv H1=>td σ H1 λx H2=>ty σ H2 λy H3=>∃a H4,x=.ref a/\jH H3 a y v H4/\D.nx σ H4
section
variable {X:Cx}{o i e value:Expr}{pos pos' tpos:Pos}{td ty tv:TE}
theorem dD (hu:X.A.units+1<cLine)(ho:PE X o td)(hi:PE X i ty)(hs:Qc i):PE X (.Subscript o i pos) (abx td ty):=by
 intro pins s σ H Q I h
 refine abv PySem.F.slot_dict_getitem.lookup hs (aO (ho pins s σ H _ I h) λu s1 ⟨x,H1,I1,rx,q1⟩=>aO (hi pins s1 σ H1 _ I1 q1) λiv s2 ⟨y,H2,I2,ry,a,v,ex,g,q2⟩=>?_)
 subst ex
 obtain rfl:u=Value.ref a:=rx
 exact⟨abw I2 g,abo hu I2 g ry λw' s3 I3 iH=>⟨v,H2,I3,iH,q2⟩⟩
theorem Qe (hu:X.A.units+1<cLine)(hi:PE X i ty)(ho:PE X o td):PC X .In i o (aby ty td):=by
 intro pins s σ H Q I h
 refine aO (hi pins s σ H _ I h) λiv s1 ⟨y,H1,I1,ry,q1⟩=>aO (ho pins s1 σ H1 _ I1 q1) λu s2 ⟨x,H2,I2,rx,a,ov,ex,g,q2⟩=>?_
 subst ex
 obtain rfl:u=Value.ref a:=rx
 exact abp hu I2 g ry λs3 I3=>⟨.bl ov.isSome,H2,I3,rfl,q2⟩
theorem abB (hu:X.A.units+1<cLine)(hi:PE X i ty)(ho:PE X o td):PC X .NotIn i o (abz ty td):=by
 intro pins s σ H Q I h
 refine aO (hi pins s σ H _ I h) λiv s1 ⟨y,H1,I1,ry,q1⟩=>aO (ho pins s1 σ H1 _ I1 q1) λu s2 ⟨x,H2,I2,rx,a,ov,ex,g,q2⟩=>?_
 subst ex
 obtain rfl:u=Value.ref a:=rx
 exact abq hu I2 g ry λs3 I3=>⟨.bl (!ov.isSome),H2,I3,rfl,q2⟩
theorem oK (hu:X.A.units+1<cLine)(ho:PE X o td)(hi:PE X i ty)(hv:PE X value tv)(hs:swapsWith value (some (.Subscript o i pos')) pos.line X.env=pure false):
 PS X (.Assign [.Subscript o i pos'] value pos) (abA td ty tv):=by
 intro pins s σ H D I h
 refine wpAny_Assign_Subscript (aO (hv pins s σ H _ I h) λr s1 ⟨v,H1,I1,rv,q1⟩=>aO (ho pins s1 σ H1 _ I1 q1) λu s2 ⟨x,H2,I2,rx,q2⟩=>aO (hi pins s2 σ H2 _ I2 q2) λiv s3 ⟨y,H3,I3,ry,a,H4,ex,g,q3⟩=>?_) hs
 subst ex
 obtain rfl:u=Value.ref a:=rx
 exact abr hu I3 g ry rv λs4 I4=>⟨σ,H4,I4,q3⟩
end
theorem Qf {P:Program}{w:World}{H:Hp}(h:Heap)(hb:sysModules<h.objs.size):cM P w H (h.push { cls:=.type "dict",data:=.dict #[] }) h.objs.size (.dK []):=
 ⟨Nat.zero_le _,beq_eq_false_iff_ne.mpr (Ne.symm (Nat.ne_of_lt hb)),[],.nil,Heap.DictOf.new h⟩
noncomputable def abC:TE:=λ_ H Q=>∀p,H p=none->Q (.ref p) (upd H p (.dK []))
section
variable {X:Cx}{pos:Pos}
theorem Cm:PE X (.Dict [] [] pos) abC:=λpins s σ H Q I h=>
 wpAny_Dict_empty ⟨.ref s.heap.objs.size,_,I.laid (a:=s.heap.objs.size) (o:=.dK []) (t':=s.toks) (λ_ _ q=>Heap.get?_push_of_some _ q) (Nat.le_refl _) (Qf s.heap I.big),rfl,h _ (I.hok.fresh (Nat.le_refl _))⟩
end
noncomputable def Cp:List (TE × TE)->St->Hp->(List (V × V)->Hp->Prop)->Prop
 |[],_,H,Q=>Q [] H
 |(tk,tv)::r,σ,H,Q=>tk σ H λx H1=>tv σ H1 λy H2=>Cp r σ H2 λps H3=>Q ((x,y)::ps) H3
noncomputable abbrev VV:List (V × V)->List (Value × Value)->Prop:=Paired λp q=>RelV p.1 q.1/\RelV p.2 q.2
noncomputable def yj (X:Cx) (pos:Pos) (keys:List (Option Expr)) (values:List Expr) (m7:List (TE × TE)):Prop:=
 ∀(pins:List (Addr × Obj)) (s:Shared) (σ:St) (H:Hp) (Q:List (V × V)->Hp->Prop),Inv X pins σ H s->Cp m7 σ H Q->
  wpAny (model X.prog X.w) X.A (evalPairs (pairTrees keys values X.env pos)) (λvs s'=>∃ps H',Inv X pins σ H' s'/\VV ps vs/\Q ps H') X.xe s
theorem yp {X:Cx}{pos:Pos}:yj X pos [] [] []:=λpins s σ H Q I h=>pairTrees_nil_walk ⟨[],H,I,.nil,h⟩
theorem jJ {X:Cx}{pos:Pos}{k v:Expr}{ks:List (Option Expr)}{vs:List Expr}{tk tv:TE}{m7:List (TE × TE)}(hk:PE X k tk)(hv:PE X v tv)(hr:yj X pos ks vs m7):
 yj X pos (some k::ks) (v::vs) ((tk,tv)::m7):=λpins s σ H Q I h=>
 pairTrees_cons_walk (aO (hk pins s σ H _ I h) λu s1 ⟨x,H1,I1,rx,q1⟩=>aO (hv pins s1 σ H1 _ I1 q1) λw2 s2 ⟨y,H2,I2,ry,q2⟩=>
  aO (hr pins s2 σ H2 _ I2 q2) λws s3 ⟨ps,H3,I3,rel,q3⟩=>⟨(x,y)::ps,H3,I3,.cons ⟨rx,ry⟩ rel,q3⟩)
noncomputable def rW (kvs more:List (Key × V)):List (Key × V):=more.foldl (λacc kv=>putK acc kv.1 kv.2) kvs
theorem KV.merge:∀{more:List (Key × V)}{rs:List (Key × Value)}{kvs:List (Key × V)}{vs:List (Key × Value)},KV more rs->KV kvs vs->KV (rW kvs more) (merged vs rs):=by
 intro more rs kvs vs r
 unfold KV at r
 induction r generalizing kvs vs with
 |nil=>intro q;exact q
 |@cons p q ps qs h t ih=>
  intro r0
  have e:KV (putK kvs p.1 p.2) (stored vs q.1 q.2):=by
   have:=r0.put p.1 h.2
   rw[<-h.1];exact this
  exact ih e
theorem Qg:∀(more kvs:List (Key × V)),(rW kvs more).length<=kvs.length+more.length
 |[],kvs=>by show kvs.length<=kvs.length+0;omega
 |p::r,kvs=>by
  have h1:=Qg r (putK kvs p.1 p.2)
  have h2:=Cj kvs p.1 p.2
  show(rW (putK kvs p.1 p.2) r).length<=_
  rw[List.length_cons];omega
theorem Qh {P:Program}{w:World}:∀{kvs:List (Key × V)}{ws:List (Value × Value)},VV (kvs.map λkv=>(kV kv.1,kv.2)) ws->∃rs,Carries (cQ P w) ws rs/\KV kvs rs
 |[],_,r=>by rw[List.map_nil] at r;cases r;exact⟨[],True.intro,.nil⟩
 |p::kvs,_,r=>by
  rw[List.map_cons] at r
  cases r with
  |@cons a b as bs h t=>
   obtain⟨rs,c,q⟩:=Qh (P:=P) (w:=w) t
   obtain⟨b1,b2⟩:=b
   exact⟨(p.1,b2)::rs,⟨qQ h.1,rfl,c⟩,.cons ⟨rfl,h.2⟩ q⟩
noncomputable def abD (m7:List (TE × TE)):TE:=λσ H Q=>∀p,H p=none->Cp m7 σ (upd H p (.dK [])) λps H2=>H2 p=some (.dK [])/\∃kvs:List (Key × V),ps=kvs.map (λkv=>(kV kv.1,kv.2))/\kvs.length<=15/\Q (.ref p) (upd H2 p (.dK (rW [] kvs)))
theorem yq {X:Cx}{pos:Pos}{keys:List (Option Expr)}{values:List Expr}{m7:List (TE × TE)}(h:yj X pos keys values m7)(hall:keys.all (·.isSome)=true)(hl:keys.length=values.length)(h0:keys≠[])
 (h15:keys.length<=15):PE X (.Dict keys values pos) (abD m7):=by
 intro pins s σ H Q I q
 have hn:=I.hok.fresh (Nat.le_refl s.heap.objs.size)
 have I1:=I.laid (a:=s.heap.objs.size) (o:=.dK []) (h':=s.heap.push { cls:=.type "dict",data:=.dict #[] }) (t':=s.toks) (λ_ _ q=>Heap.get?_push_of_some _ q) (Nat.le_refl _) (Qf s.heap I.big)
 refine wpAny_Dict_walk (knd:=cQ X.prog X.w) hall hl h0 h15 (aO (h pins _ σ _ _ I1 (q _ hn)) λws s2 ⟨ps,H2,I2,rel,e,kvs,ep,lk,q2⟩=>?_)
 subst ep
 obtain⟨rs,c,rk⟩:=Qh (P:=X.prog) (w:=X.w) rel
 obtain⟨z,hd,vs0,r0,dd⟩:=yg I2.hok e
 cases r0
 refine⟨rs,c,dd,λh' lO hs=>⟨.ref s.heap.objs.size,_,?_,rfl,q2⟩⟩
 have hz:(rW [] kvs).length<=sizeLine:=by
  have h1:=Qg kvs []
  rw[List.length_nil] at h1
  rw[sizeLine_eq];omega
 have he:∃q,h'.get? s.heap.objs.size=some q:=let⟨q,_,_,hq,_⟩:=lO;⟨q,hq⟩
 exact yh I2 (by rw[e];exact True.intro) hs he (Ck hz hd (rk.merge .nil) lO)
section
variable {X:Cx}{pins:List (Addr × Obj)}{σ:St}{H:Hp}{s:Shared}{a:Addr}{y d:V}{u r:Value}{o:Option V}{A:Around}{E:Value->Shared->Prop}
end
section
variable {X:Cx}{o e f:Expr}{apos cpos:Pos}{td ty tx:TE}
end
section
variable {X:Cx}{pins:List (Addr × Obj)}{σ:St}{H:Hp}{s:Shared}{a:Addr}{kvs:List (Key × V)}{A:Around}{E:Value->Shared->Prop}
end
section
variable {X:Cx}{pins:List (Addr × Obj)}{σ:St}{H:Hp}{s:Shared}{a:Addr}{y:V}{u:Value}{A:Around}{E:Value->Shared->Prop}
end
end L2
namespace Qi
open PySem PySem.W PySem.Calls PyProof.Rows
theorem abE {P:Params}{h:Heap}:∀(ns:List Int) (vs:List Value),WellAll P h vs (ns.map WData.int)->IntsAre vs ns:=by
 intro ns
 induction ns with
 |nil=>
  intro vs w
  rw[List.map_nil] at w
  cases w
  exact .nil
 |cons n ns ih=>
  intro vs w
  rw[List.map_cons] at w
  cases w with
  |cons a b=>
   cases a
   exact .cons _ _ (ih _ b)
theorem abF {l:OpenLaw}{n:Nat}(hn:l.most=some n){P:Params}{h:Heap}{args:List WData}{vals:List Value}
 (hpre:l.row.toRowW.claim.pre args=true) (hwl:WellAll P h vals args):
 ∃a vs ns,vals=[Value.ref a]/\args=[WData.list (ns.map WData.int)]/\h.get? a=some { cls:=.type "list",data:=.seq vs.toArray }/\IntsAre vs ns/\ns.length<=n:=by
 have hsh:WShape.hasAll [] args [.list .int]=true:=(pre_splitW hpre).1
 have hc:l.pre.holds [] { args:=args }=true:=(pre_splitW hpre).2
 obtain⟨d,r,rfl,h1,h2⟩:=hasAllW_cons hsh
 obtain rfl:=hasAllW_nil h2
 obtain⟨xs,rfl,h3⟩:=hasW_list h1
 obtain⟨ns,rfl⟩:=items_int h3
 have hlen:ns.length<=n:=by
  unfold OpenLaw.pre at hc
  have h4:(WTm.not (.lt (.lit (.int (n:Int))) (.len (.arg 0)))).holds [] { args:=[.list (ns.map .int)] }=true:=by
   have h4:=(holds_andW hc).1
   rw[hn] at h4
   exact h4
  have h5:=condW_of h4 (w_not (w_lt w_lit (w_len_list (w_arg rfl))))
  rw[List.length_map] at h5
  refine Nat.le_of_not_lt λq=>?_
  have q':(n:Int)<((ns.length:Nat):Int):=by omega
  first
   |(rw[decide_eq_true q'] at h5;exact absurd h5 (by decide))
   |(simp at h5;omega)
 cases hwl with
 |cons w1 w2=>
  cases w2
  cases w1 with
  |list ho hall=>exact⟨_,_,ns,rfl,rfl,ho,abE ns _ hall,hlen⟩
theorem abG (l:OpenLaw)(args:List WData):l.row.toRowW.claim.post args (.bool true) args=true:=
 postW_of (r:=l.row.toRowW) (X:=(true == true))
  (show WShape.has [] (.bool true) .bool=true by first|rfl|decide|simp[WShape.has,WShape.arms,WShape.armsAll])
  (show(WTm.eq .res (.lit (.bool true))).value [] { args:=args,res:=some (.bool true),after:=args }=some (.bool (true == true)) from w_eq_bool (w_res rfl) w_lit) rfl
theorem abH {l:OpenLaw}{n:Nat}{q:Program}{loose:List Str}{XP:(Str->Option Value)->Heap->Prop}{YP:World->Heap->Prop}{d:DefRec}
 (hn:l.most=some n) (hdf:d.params.defaults=[])
 (call:∀(w:World) (s₀ s₁:Shared) (mg mb:Str->Option Value) (fa:Addr) (o:Obj) (pm cd doc:Value) (a:Addr) (vs:List Value) (ns:List Int),
   Ground q loose [] XP w s₀ mg mb s₁.heap->YP w s₁.heap->
   s₁.heap.get? fa=some o->o.data=.func (docDef d.name d.params d.body d.scope pm cd doc)->s₁.heap.CodeRec cd d.name->mg d.name=some (.ref fa)->
   s₁.heap.get? a=some { cls:=.type "list",data:=.seq vs.toArray }->IntsAre vs ns->ns.length<=n->s₁.gens=#[]->
   codeAny (model l.prog w) callerA (.call (.ref fa) ⟨[.ref a],[]⟩) (λr s'=>r=.ok (.ret (.bool true))/\OldK s₁.heap s'.heap/\s'.os=s₁.os/\AllBare s'.gens) s₁):
 WalkO q loose XP YP l.row.toRowW d [] (λf vs=>PySem.call f vs):=by
 intro w s₀ s₁ mg mb G Y fa o pm cd doc dV kV ho hd hcd hD hmg hg args vals as hpre hlay hrd hwl hlo
 obtain rfl:dV=.none:=Dflts.none hD hdf
 obtain rfl:kV=.none:=Dflts.noKw hD
 obtain⟨a,vs,ns,rfl,rfl,hobj,hints,hlen⟩:=abF hn hpre hwl
 refine enter_call (codeAny_mono (call w s₀ s₁ mg mb fa o pm cd doc a vs ns G Y ho (fd_plain hd) hcd hmg hobj hints hlen hg) λr s' hq=>?_)
 obtain⟨rfl,h2,h3,h4⟩:=hq
 exact⟨.inl ⟨.bool true,.bool true,[],rfl,λ_=>rfl,.bool true,abG l _,λ_=>⟨List.Pairwise.nil,λ_ hm=>(nomatch hm)⟩⟩,h2,h3,h4⟩
section
variable {prog:Program}{w:World}{A:Around}{E:Value->Shared->Prop}{s:Shared}{K:Frag}
end
end Qi
namespace L2
open PySem PySem.Spec PyProof.Rows
theorem Qj:∀{vs:List Value}{ns:List Int},IntsAre vs ns->Vals (ns.map V.int) vs
 |_,_,.nil=>.nil
 |_,_,.cons n t h=>.cons ⟨t,rfl⟩ (Qj h)
noncomputable def bO (s:Stmt):Arguments:=match s with
 | .FunctionDef _ a _ _ _ _ _ _ _ _=>a
 |_=>{ posonlyargs:=[],args:=[],vararg:=none,kwonlyargs:=[],kw_defaults:=[],kwarg:=none,defaults:=[] }
noncomputable def bG (s:Stmt):List Stmt:=match s with
 | .FunctionDef _ _ b _ _ _ _ _ _ _=>b
 |_=>[]
noncomputable def aM (s:Stmt):Scope:=match s with
 | .FunctionDef _ _ _ _ _ _ sc _ _ _=>sc
 |_=>{ kind:=.function,names:=[],isGenerator:=false,isCoroutine:=false }
noncomputable abbrev aP:jw:=λ_ _ _ _ _ _=>False
noncomputable abbrev E0:XK:=λ_ _ _=>False
theorem bC {X:Cx}:Passes aP X E0:=λ_ _ _ _ _ _ _ h=>h.elim
structure jZ (K:W.Frag) (x qual:Str) (st:Stmt) (f:Addr) (fd:FuncData):Prop where
 ex:∃(oc:Value) (od:Option Addr) (kV doc pm:Value) (an:Option Addr) (cdv ct:Value) (osl:Array (Option Value)),
  fd=W.fnOf x qual (bO st) (bG st) (aM st) .none kV doc pm an cdv ct/\K.lookup f=some ⟨oc,od,.func fd,osl⟩/\W.codeIn K cdv qual=true
 kp:W.keepIn K (.ref f)=true
variable {P:Program}{w:World}{K:W.Frag}{mg:Str->Option Value}{base:Heap}
theorem jZ.ok {x qual:Str}{st:Stmt}{f:Addr}{fd:FuncData}{N ps:List Str}{k:Nat}{sp:Sp}(F:jZ K x qual st f fd)(S:b_ N ps (aM st))(len:∀vs H Q E,sp vs H Q E->vs.length=ps.length)
 (hbody:∀(cdv:Value) (A:Around) (outer:List Env) (s:Shared) (H:Hp) (vs:List V) (Q:VK) (E:XK),cP k (A.deeper (envOfC qual (aM st) s.heap.objs.size f cdv))->sp vs H Q E->
   ∃t,gP (lM aP P w K mg base N qual (aM st) f cdv A outer s H E).mK (bG st) t/\t { nx:=λ_ H'=>Q .non H',rt:=Q } (start N vs) H):aH P w K mg base aP (k+1) f fd ps sp:=by
 obtain⟨oc,od,kV,doc,pm,an,cdv,ct,osl,rfl,lk,hcd⟩:=F.ex
 refine BZ lk hcd S len λA outer s H vs Q E hr hsp=>?_
 obtain⟨t,h,q⟩:=hbody cdv A outer s H vs Q E hr hsp
 exact⟨t,h.mK,q⟩
theorem jZ.binds {x qual:Str}{st:Stmt}{f:Addr}{fd:FuncData}{ps:List Str}(F:jZ K x qual st f fd)
 (h:∀(kV doc pm:Value) (an:Option Addr) (cdv ct:Value) (us:List Value),us.length=ps.length->bindArgs (W.fnOf x qual (bO st) (bG st) (aM st) .none kV doc pm an cdv ct) ⟨us,[]⟩=pure (ps.zip us)):Binds K fd ps []:=by
 obtain⟨oc,od,kV,doc,pm,an,cdv,ct,osl,rfl,lk,hcd⟩:=F.ex
 exact .all (h kV doc pm an cdv ct)
theorem abI {x qual:Str}{st:Stmt}{f:Addr}{oc:Value}{od an:Option Addr}{osl:Array (Option Value)}{kV doc pm cdv ct:Value}(l:K.lookup f=some ⟨oc,od,.func (W.fnOf x qual (bO st) (bG st) (aM st) .none kV doc pm an cdv ct),osl⟩)
 (c:W.codeIn K cdv qual=true) (k:W.keepIn K (.ref f)=true):jZ K x qual st f (W.fnOf x qual (bO st) (bG st) (aM st) .none kV doc pm an cdv ct):=⟨⟨oc,od,kV,doc,pm,an,cdv,ct,osl,rfl,l,c⟩,k⟩
theorem eO {A:Around}{k:Nat}(hr:cP k A):A.units+1<cLine:=Nat.lt_of_le_of_lt (Nat.add_le_add_left (by decide:1<=64) _) hr.units
theorem dX {n:Nat}(h:n<=1000):n<sizeLine:=Nat.lt_of_le_of_lt h (by decide)
section
variable {X:Cx}
theorem pv (i:Nat){x:Str}{pos:Pos}(hN:X.N[i]? =some x:=by rfl)(hv:Bj X.env.scope x:=by first|exact Or.inl rfl|exact Or.inr (Or.inl rfl)|exact Or.inr (Or.inr rfl))(hd:(x == ("__debug__":Str))=false:=by decide)
 (hcd:(x == ("__classdict__":Str))=false:=by decide):PE X (.Name x pos) (fW i):=Z2 hN hv hd hcd
end
theorem bU {A B:Prop}(h:B):if false=true then A else B:=by
 rw[if_neg Bool.false_ne_true]
 exact h
theorem cZ {A B:Prop}(h:A):if true=true then A else B:=by
 rw[if_pos rfl]
 exact h
theorem cu {c A B:Prop} [Decidable c](h1:c->A)(h2:¬c->B):if c then A else B:=by
 by_cases h:c
 . rw[if_pos h]
   exact h1 h
 . rw[if_neg h]
   exact h2 h
theorem oM {c A B:Prop} [Decidable c](hc:c)(h:B):if(!decide c)=true then A else B:=by
 rw[decide_eq_true hc]
 exact bU h
noncomputable def Same (H H':Hp):Prop:=∀b o,H b=some o->H' b=some o
theorem Same.refl (H:Hp):Same H H:=λ_ _ h=>h
theorem Same.trans {H H1 H2:Hp}(a:Same H H1)(b:Same H1 H2):Same H H2:=λc o h=>b c o (a c o h)
section
variable {X:Cx}
theorem Cq:eZ X (.builtin "len") (λxs H Q=>∃a kvs,xs=[V.ref a]/\H a=some (.dK kvs)/\Q (.int kvs.length) H):=by
 intro pins s σ H xs us Q I r h
 obtain⟨a,kvs,rfl,ha,q⟩:=h
 obtain⟨u,rfl,ru⟩:=vals1 r
 cases ru
 exact abu I (.inl ha) λt s' I'=>⟨.int kvs.length,H,I',⟨t,rfl⟩,q⟩
end
section
variable {κ:Type} [DecidableEq κ]
theorem Qk {kvs:List (κ × V)}{k:κ}{v:V}(h:dH kvs k=some v):k∈kvs.map (·.1):=by
 have q:(kvs.any λkv=>decide (kv.1=k))=true:=by
  rw[yd,h]
  all_goals rfl
 obtain⟨p,hp,e⟩:=List.any_eq_true.mp q
 exact List.mem_map.mpr ⟨p,hp,of_decide_eq_true e⟩
end
theorem Ql {g:Str->NameKind->NameKind}{x:Str}:∀names:List (Str × NameKind),
 (names.map λy=>(y.1,g y.1 y.2)).lookup x=(names.lookup x).map (g x)
 |[]=>rfl
 |(n,k)::r=>by
  show List.lookup x ((n,g n k)::_)=_
  rw[List.lookup_cons,List.lookup_cons,Ql r]
  cases hx:x == n with
  |true=>rw[eq_of_beq hx];rfl
  |false=>rfl
noncomputable def lQ (env:Env) (n:Str) (k:NameKind):NameKind:=
 if(k == .free && env.scope.kind == .function && env.kindOf n == some .cell)=true then .cell else k
theorem Qm (scope:Scope)(env:Env)(x:Str):
 (relabel scope env).names.lookup x=(scope.names.lookup x).map (lQ env x):=by
 rw[<-Ql (g:=lQ env) scope.names]
 show List.lookup x (scope.names.map _)=_
 congr 1
 apply List.map_congr_left
 rintro⟨n,k⟩ _
 show(if _ then _ else _)=(n,lQ env n k)
 unfold lQ
 split <;> rfl
theorem abJ {env:Env}{x:Str}{k:NameKind}(h:lQ env x k=.local):k=.local:=by
 unfold lQ at h
 split at h
 . cases h
 . exact h
theorem abK {env:Env}{x:Str}{k:NameKind}(h:lQ env x k=.cell):k=.free\/k=.cell:=by
 unfold lQ at h
 split at h
 . rename_i c
   left
   simp only[Bool.and_eq_true] at c
   exact eq_of_beq c.1.1
 . exact .inr h
theorem abL {env:Env}{x:Str}{k:NameKind}(h:lQ env x k=.free):k=.free:=by
 unfold lQ at h
 split at h
 . cases h
 . exact h
theorem Cr {env:Env}:∀(names:List (Str × NameKind)) (acc:List (Str × Addr)),(∀y∈names,y.2=.free->∃c,env.cells.lookup y.1=some c)->
 (∀x c,acc.lookup x=some c->env.cells.lookup x=some c)->
 ∃cl:List (Str × Addr),(forIn names acc λy cs=>if(y.2 == NameKind.free)=true then(do let a <-cellOf env y.1;pure (ForInStep.yield ((y.1,a)::cs))) else pure (ForInStep.yield cs))=(pure cl:Sem _)/\
  (∀x c,cl.lookup x=some c->env.cells.lookup x=some c)/\(∀x,((x,NameKind.free)∈names\/(acc.lookup x).isSome=true)->cl.lookup x=env.cells.lookup x)
 |[],acc,_,ha=>⟨acc,rfl,ha,λx hx=>by
    rcases hx with hx|hx
    . cases hx
    . obtain⟨c,e⟩:=Option.isSome_iff_exists.mp hx
      rw[e,ha x c e]⟩
 |(n,k)::r,acc,hn,ha=>by
  by_cases hk:k=.free
  . subst hk
    obtain⟨c,e⟩:=hn (n,.free) List.mem_cons_self rfl
    have e:env.cells.lookup n=some c:=e
    have ha':∀x d,((n,c)::acc).lookup x=some d->env.cells.lookup x=some d:=λx d h=>by
     rw[List.lookup_cons] at h
     cases hx:x == n with
     |true=>
      rw[hx] at h
      cases h
      rw[eq_of_beq hx];exact e
     |false=>
      rw[hx] at h
      exact ha x d h
    obtain⟨cl,h1,h2,h3⟩:=Cr r ((n,c)::acc) (λy hy=>hn y (List.mem_cons_of_mem _ hy)) ha'
    refine⟨cl,?_,h2,λx hx=>h3 x ?_⟩
    . rw[List.forIn_cons]
      have ec:cellOf env n=pure c:=by unfold cellOf;rw[e]
      simp only[beq_self_eq_true,if_true,ec,pure_bind]
      exact h1
    . rcases hx with hx|hx
      . rcases List.mem_cons.mp hx with q|q
        . right
          cases q
          rw[List.lookup_cons,beq_self_eq_true];rfl
        . exact .inl q
      . right
        rw[List.lookup_cons]
        cases x == n with
        |true=>rfl
        |false=>exact hx
  . obtain⟨cl,h1,h2,h3⟩:=Cr r acc (λy hy=>hn y (List.mem_cons_of_mem _ hy)) ha
    refine⟨cl,?_,h2,λx hx=>h3 x ?_⟩
    . rw[List.forIn_cons]
      have eb:(k == NameKind.free)=false:=by simpa using hk
      simp only[eb,Bool.false_eq_true,if_false,pure_bind]
      exact h1
    . rcases hx with hx|hx
      . rcases List.mem_cons.mp hx with q|q
        . cases q;exact absurd rfl hk
        . exact .inl q
      . exact .inr hx
theorem Cu {scope:Scope}{env:Env}(hn:∀y∈scope.names,y.2=.free->∃c,env.cells.lookup y.1=some c):
 ∃cl:List (Str × Addr),closureFor scope env=pure cl/\(∀x c,cl.lookup x=some c->env.cells.lookup x=some c)/\(∀x,(x,NameKind.free)∈scope.names->cl.lookup x=env.cells.lookup x):=by
 obtain⟨cl,h1,h2,h3⟩:=Cr scope.names [] hn (λx c h=>by cases h)
 refine⟨cl,?_,h2,λx hx=>h3 x (.inl hx)⟩
 unfold closureFor
 have e:(forIn scope.names ([]:List (Str × Addr)) λy cs=>do
  let mut cs:=cs
  match y with
  |(name,kind)=>if(kind == NameKind.free)=true then cs:=(name,<-cellOf env name)::cs
  pure (ForInStep.yield cs))=(pure cl:Sem _):=by
  rw[<-h1]
 first
  |exact(by simpa using e)
  |(show(forIn scope.names ([]:List (Str × Addr)) _ >>= λcs=>pure cs)=_;rw[bind_pure];exact e)
structure fZ (X:Cx) (own:List Str) (scope:Scope):Prop where
 kind:scope.kind=.function
 cell:∀y∈scope.names,y.2≠ .cell
 names:∀y∈scope.names,y.2=.local->scope.names.lookup y.1=some .local
 free:∀y∈scope.names,y.2=.free->X.env.kindOf y.1=some .cell\/X.env.kindOf y.1=some .free
 nd:(own++X.N).Nodup
 outer:∀x∈X.N,scope.names.lookup x≠some .local
noncomputable def fj (X:Cx) (own:List Str) (scope:Scope) (cl:List (Str × Addr)) (C:Addr) (fp:List Addr) (s₂:Shared) (H₂:Hp):Cx:=
 { X with N:=own++X.N,s₀:=s₂,H₀:=H₂,env:=compEnvC scope cl C X.env,outer:=X.stack,ex:=fp,fn:=λ_=>false,pn:=[],xe:=λ_ _=>False }
noncomputable def yr (X:Cx) (ifs:List Expr) (t:TT):Prop:=
 ∀(pins:List (Addr × Obj)) (s:Shared) (σ:St) (H:Hp) (Q:Bool->Hp->Prop),Inv X pins σ H s->t σ H Q->
  wpAny (model X.prog X.w) X.A (forIn ifs true λc r=>if r=true then do let ok <-isTrue c X.env (eval c X.env);pure (ForInStep.yield ok) else pure (ForInStep.yield r)) (TP X pins σ Q) X.xe s
noncomputable def lR:TT:=λ_ H Q=>Q true H
theorem qR {X:Cx}:yr X [] lR:=λpins s σ H Q I h=>wpAny_tests_nil ⟨H,I,h⟩
noncomputable def Cw (k:Nat) (wi:TI) (g:TG) (tt:TT) (te:TE):TE:=λσ H Q=>wi σ H λJ H1=>
 ∃W:Nat->Nat->List V->Hp->Prop,(∃m,W 0 m [] H1)/\∀i m ys H,W i m ys H->
  (J.stop i H/\∀p,H p=none->Q (.ref p) (upd H p (.lst ys)))\/
  (J.go i H/\ys.length<sizeLine/\∀x H',J.mO i H x H'->g x (List.replicate k none++σ) H' λσ2 H2=>σ2.drop k=σ/\
    tt σ2 H2 λb H3=>if b=true then te σ2 H3 λy H4=>∃m',m'<m/\W (i+1) m' (ys++[y]) H4 else ∃m',m'<m/\W (i+1) m' ys H3)
section
variable {prog:Program}{w:World}{A:Around}{R:Result->Shared->Prop}{s:Shared}
theorem abM {elt target iter:Expr}{ifs:List Expr}{scope:Scope}{pos:Pos}{it acc:Value}{env:Env}(I:Nat->Shared->Prop)
 (turn:∀n s,I n s->wpAny (model prog w) A (pyNext it) (λr s₁=>
   match r with
   |none=>R (.ok .next) s₁
   |some v=>wpAny (model prog w) A (letOwnedTupleGo target it v) (λ_ s₂=>wpAny (model prog w) A (assign target env v) (λ_ s₃=>
     wpAny (model prog w) A (forIn ifs true λc r=>if r=true then do let ok <-isTrue c env (eval c env);pure (ForInStep.yield ok) else pure (ForInStep.yield r)) (λok s₄=>
      if ok=true then wpAny (model prog w) A (eval elt env) (λx s₅=>
       wpAny (model prog w) A (call (.builtin "list.append") [acc,x]) (λ_ s₆=>∃m,m<n/\I m s₆) (λ_ _=>False) s₅) (λ_ _=>False) s₄
      else ∃m,m<n/\I m s₄) (λ_ _=>False) s₃) (λ_ _=>False) s₂) (λ_ _=>False) s₁) (λ_ _=>False) s)
 (n:Nat) (h:I n s):
 codeAny (model prog w) A (.compLoop (.ListComp elt [⟨target,iter,ifs,0⟩] scope pos) 0 it acc env) R s:=by
 refine codeAny_loop rfl I (λn s hI=>?_) n h
 show wpAny _ A ((compTurn _ 0 it acc env).onRaise _) _ _ s
 refine wpAny_noted ?_
 rw[compTurn_list]
 have no:∀{α:Type} {t:Sem α} {Q Q':α->Shared->Prop} {E:Value->Shared->Prop} {s:Shared},wpAny (model prog w) A t Q (λ_ _=>False) s->(∀a s,Q a s->Q' a s)->wpAny (model prog w) A t Q' E s:=
  λh k=>wpAny_mono h k λ_ _ z=>z.elim
 refine wpAny_bind (wpAny_standAt (wpAny_bind (no (turn n s hI) λr s₁ h₁=>?_)))
 cases r with
 |none=>exact wpAny_pure h₁
 |some v=>
  refine wpAny_bind (no h₁ λ_ s₂ h₂=>?_)
  refine wpAny_bind (no h₂ λ_ s₃ h₃=>wpAny_bind (no h₃ λok s₄ h₄=>?_))
  cases ok with
  |false=>exact wpAny_pure ⟨rfl,h₄⟩
  |true=>
   refine wpAny_bind (wpAny_bind (no h₄ λx s₅ h₅=>?_))
   exact wpAny_bind (no h₅ λ_ s₆ h₆=>wpAny_pure (wpAny_pure ⟨rfl,h₆⟩))
end
noncomputable abbrev iT (us:List Value) (n:Nat):Obj:={ cls:=.type "list",data:=.seq us.toArray n }
section
variable {X:Cx}{own:List Str}{scope:Scope}
theorem fZ.cells (S:fZ X own scope){pins:List (Addr × Obj)}{σ:St}{H:Hp}{s:Shared}(I:Inv X pins σ H s):
 ∀y∈scope.names,y.2=.free->∃c,X.env.cells.lookup y.1=some c:=λy hy hf=>I.ok.has y.1 (S.free y hy hf)
theorem fZ.freeOf (S:fZ X own scope){x:Str}(h:(relabel scope X.env).names.lookup x=some .cell\/(relabel scope X.env).names.lookup x=some .free):(x,NameKind.free)∈scope.names:=by
 rw[Qm] at h
 cases e:scope.names.lookup x with
 |none=>rw[e] at h;rcases h with h|h <;> cases h
 |some k=>
  rw[e] at h
  have hm:(x,k)∈scope.names:=PySem.mem_of_lookup e
  have hk:k=.free:=by
   rcases h with h|h
   . rcases abK (Option.some.inj h) with q|q
     . exact q
     . exact absurd q (S.cell _ hm)
   . exact abL (Option.some.inj h)
  rw[<-hk];exact hm
theorem fZ.abN (S:fZ X own scope){x:Str}(hx:x∈X.N):(relabel scope X.env).names.lookup x≠some .local:=λh=>by
 rw[Qm] at h
 cases e:scope.names.lookup x with
 |none=>rw[e] at h;cases h
 |some k=>
  rw[e] at h
  have:=abJ (Option.some.inj h)
  subst this
  exact S.outer x hx e
theorem Qn {k:Nat}{σ:St}{i:Nat}{v:V}(h:(List.replicate k none++σ)[i]? =some (some v)):k<=i/\σ[i - k]? =some (some v):=by
 by_cases hi:i<k
 . rw[List.getElem?_append_left (by simpa using hi),List.getElem?_replicate] at h
   split at h <;> cases h
 . refine⟨Nat.le_of_not_lt hi,?_⟩
   rw[List.getElem?_append_right (by simpa using hi)] at h
   simpa using h
theorem Inv.block {pins:List (Addr × Obj)}{σ:St}{H:Hp}{s:Shared}{fp:List Addr}{cl:List (Str × Addr)}{C D:Addr}{h₁:Heap}{m:Str->Option Value}{t':Nat}{us:List Value}{n:Nat}(I:Inv X pins σ H s)(S:fZ X own scope)
 (hf:∀b∈fp,fX X pins H b) (hfl:∀b∈fp,b<s.heap.objs.size)
 (hsub:∀x c,cl.lookup x=some c->X.env.cells.lookup x=some c) (hget:∀x,(x,NameKind.free)∈scope.names->cl.lookup x=X.env.cells.lookup x)
 (hC:s.heap.objs.size<=C) (hD:s.heap.objs.size<=D) (hDC:D≠C) (hn:h₁.Ns C m) (old:∀b o,s.heap.get? b=some o->h₁.get? b=some o) (hacc:h₁.get? D=some (iT us n)):
 Inv (fj X own scope cl C fp s H) [(D,iT us n)] (List.replicate own.length none++σ) H { s with heap:=h₁,toks:=t' }:=by
 have ok:=I.ok
 have rP:∀b:Addr,s.heap.objs.size<=b->b ∉ frs X.stack:=λb hb z=>by
  rcases List.mem_cons.mp (I.rQ b z) with e|e
  . exact absurd I.lt (by rw[<-e];exact Nat.not_lt.mpr hb)
  . exact I.rP hb e
 have fresh:∀b:Addr,s.heap.objs.size<=b->H b=none:=λb hb=>I.hok.fresh hb
 have clt:∀x c,cl.lookup x=some c->c<s.heap.objs.size:=λx c e=>by
  obtain⟨v,q⟩:=I.cell x c (hsub x c e)
  exact q.lt
 refine⟨⟨ok.mod,S.kind,ok.glob,ok.blt,hC,λx y c e1 e2=>ok.inj x y c (hsub x c e1) (hsub y c e2),λx hx=>?_,λx c hx _=>(nomatch hx),ok.hd,ok.frames,.inl rfl,λb hb=>?_,I.bs,Nat.le_trans ok.jW I.sz,λb o e hb=>?_,λb hb z=>?_,I.stack,I.uJ⟩,
  rfl,I.bare,Un.kept old,⟨m,hn,λi x v e1 e2 e3=>?_⟩,λx c e=>?_,fresh C hC,λx c e=>?_,λp hp=>?_,I.hok.kept old,?_⟩
 . have hm:=S.freeOf (x:=x) hx
   obtain⟨c,e⟩:=ok.has x (S.free _ hm rfl)
   exact⟨c,by rw[show(fj X own scope cl C fp s H).env.cells=cl from rfl,hget x hm];exact e⟩
 . refine⟨Nat.ne_of_lt (Nat.lt_of_lt_of_le (hfl b hb) hC),λx c e z=>?_⟩
   exact(hf b hb).2.2.2.2.1 x c (hsub x c e) z
 . rcases(hf b hb).2.2.2.1 with z|z
   . exact ok.rO b o e z
   . exact absurd (Nat.lt_of_lt_of_le (Heap.lt_size e) (Nat.le_trans ok.jW z)) (Nat.lt_irrefl _)
 . rcases List.mem_cons.mp (I.rQ b z) with q|q
   . exact(hf b hb).2.1 q
   . exact(hf b hb).2.2.1 q
 . obtain⟨hk,e2'⟩:=Qn e2
   have e1':X.N[i - own.length]? =some x:=by
    have e1:(own++X.N)[i]? =some x:=e1
    rw[List.getElem?_append_right hk] at e1
    exact e1
   have hxN:x∈X.N:=List.mem_of_getElem? e1'
   have hk2:(relabel scope X.env).names.lookup x=some .cell\/(relabel scope X.env).names.lookup x=some .free:=by
    rcases e3 with q|q
    . exact absurd q (S.abN hxN)
    . exact q
   have hm:=S.freeOf hk2
   have vf:=S.free _ hm rfl
   obtain⟨mX,hnX,Cy⟩:=I.loc
   obtain⟨u,r,lk⟩:=Cy _ x v e1' e2' (.inr vf)
   refine⟨u,r,.inr ⟨hk2,?_⟩⟩
   rcases lk with⟨q,_⟩|⟨_,c,ec,hc⟩
   . rcases vf with z|z
     . rw[z] at q;cases q
     . rw[z] at q;cases q
   . obtain⟨o,ho,hd⟩:=hc
     exact⟨c,(hget x hm).trans ec,o,old _ _ ho,hd⟩
 . obtain⟨v,o,ho,hd⟩:=I.cell x c (hsub x c e)
   exact⟨v,o,old _ _ ho,hd⟩
 . exact I.iC x c (hsub x c e)
 . have e:p=(D,iT us n):=by
    have hp:p∈([]++[(D,iT us n)]:List (Addr × Obj)):=hp
    simpa using hp
   subst e
   exact⟨hacc,fresh D hD,hDC,rP D hD,λv z=>by
    have z:Data.seq us.toArray n=Data.cell v:=z
    cases z⟩
 . show _=(own++X.N).length
   rw[List.length_append,List.length_append,List.length_replicate,I.len]
theorem Inv.unblock {pins:List (Addr × Obj)}{σ σ':St}{H H3:Hp}{s s3:Shared}{fp:List Addr}{cl:List (Str × Addr)}{C D:Addr}{h':Heap}{us:List Value}{n:Nat}{ys:List V}{pl:List (Addr × Obj)}(I:Inv X pins σ H s)
 (hf:∀b∈fp,fX X pins H b) (I3:Inv (fj X own scope cl C fp s H) pl σ' H3 s3) (hpl:(D,iT us n)∈pl) (hC:s.heap.objs.size<=C) (hD:s.heap.objs.size<=D) (hDC:D≠C)
 (r:Vals ys us) (hz:ys.length<=sizeLine) (hs:Heap.SameBut C s3.heap h'):Inv X pins σ (upd H3 D (.lst ys)) { s3 with heap:=h' }/\H3 D=none:=by
 obtain⟨eD,nD,_,_,_⟩:=I3.pin (D,iT us n) (List.mem_append_right _ hpl)
 have nC:H3 C=none:=I3.free
 have kC:∀b o,b≠C->s3.heap.get? b=some o->h'.get? b=some o:=λb o hb e=>(hs.2 b hb).trans e
 refine⟨I.call' (ch:=fp) I3.os ⟨λb o e nb hb hx=>?_,λb o e nb hb hx=>?_,λb o e nb hx=>?_,λb o e hx=>?_,λb xs e=>?_,λb o u e=>?_,λb ps e=>?_⟩ (λb o e=>?_) I3.bare (λb hb=>?_),nD⟩
 . exact kC b o (Nat.ne_of_lt (Nat.lt_of_lt_of_le (Heap.lt_size e) hC)) (I3.base.keep b o e nb hb hx)
 . obtain⟨sl,e1⟩:=I3.base.slot b o e nb hb hx
   exact⟨sl,kC b _ (Nat.ne_of_lt (Nat.lt_of_lt_of_le (Heap.lt_size e) hC)) e1⟩
 . rw[au (Nat.ne_of_lt (Nat.lt_of_lt_of_le (Heap.lt_size e) hD))]
   exact I3.base.free b o e nb hx
 . obtain⟨o',e1⟩:=I3.base.there b o e hx
   exact⟨o',kC b _ (Nat.ne_of_lt (Nat.lt_of_lt_of_le (Heap.lt_size e) hC)) e1⟩
 . have q:=I3.base.tups b xs e
   rw[au (aR q nD)];exact q
 . have q:=I3.base.jg b o u e
   rw[au (aR q nD)];exact q
 . obtain⟨mo,q⟩:=I3.base.jh b ps e
   exact⟨mo,by rw[au (aR q nD)];exact q⟩
 . by_cases hb:b=D
   . subst hb
     rw[aD] at e;cases e
     exact⟨hz,us,n,r,kC b _ hDC eD⟩
   . rw[au hb] at e
     refine(I3.hok b o e).stay (λc v hc q=>kC c v ?_ q) (λc q=>by rw[au (aR q nD)];exact q) λc xs q=>by rw[au (aR q nD)];exact q
     rcases hc with z|z
     . rw[z];exact aR e nC
     . exact aR z nC
 . obtain⟨_,f1,_,f3,f4,f5⟩:=hf b hb
   exact⟨f3,f1,f4,f5⟩
theorem Qo {tg iter elt:Expr}{ifs:List Expr}{pos:Pos}{g:TG}{tt:TT}{te:TE}{pins:List (Addr × Obj)}{σ:St}{H2:Hp}{s2:Shared}{it:Addr}{fp:List Addr}{tn:Nat->Heap->Prop}{J:It}{cl:List (Str × Addr)}{Fin:List V->Hp->Prop}{W:Nat->Nat->List V->Hp->Prop}{m0:Nat}
 {RR:Value->Addr->Result->Shared->Prop} (hc:X.calm=true) (S:fZ X own scope) (hsub:∀x c,cl.lookup x=some c->X.env.cells.lookup x=some c) (hget:∀x,(x,NameKind.free)∈scope.names->cl.lookup x=X.env.cells.lookup x)
 (I2:Inv X pins σ H2 s2) (T:Turn X.prog X.w X.K tg J fp it tn) (st2:tn 0 s2.heap) (f2:∀b∈fp,fX X pins H2 b) (w0:W 0 m0 [] H2)
 (turn:∀i m ys H,W i m ys H->(J.stop i H/\Fin ys H)\/
   (J.go i H/\ys.length<sizeLine/\∀x H',J.mO i H x H'->g x (List.replicate own.length none++σ) H' λσ2 H2=>σ2.drop own.length=σ/\
     tt σ2 H2 λb H3=>if b=true then te σ2 H3 λy H4=>∃m',m'<m/\W (i+1) m' (ys++[y]) H4 else ∃m',m'<m/\W (i+1) m' ys H3))
 (hg:∀cl C fp s₂ H₂,PG (fj X own scope cl C fp s₂ H₂) tg g) (ht:∀cl C fp s₂ H₂,yr (fj X own scope cl C fp s₂ H₂) ifs tt) (he:∀cl C fp s₂ H₂,PE (fj X own scope cl C fp s₂ H₂) elt te)
 (hRR:∀(C D:Addr) (s5:Shared) (H5:Hp) (ys:List V) (us:List Value) (k:Nat),s2.heap.objs.size<=C->s2.heap.objs.size<=D->D≠C->Inv (fj X own scope cl C fp s2 H2) [(D,iT us k)] (List.replicate own.length none++σ) H5 s5->Vals ys us->ys.length<=sizeLine->Fin ys H5->RR (.ref D) C (.ok .next) s5):
 wpAny (model X.prog X.w) X.A (newList []) (λacc s₃=>wpAny (model X.prog X.w) X.A (newFunctionEnv scope X.env.globals cl [] X.env.qual none .none (some X.env)) (λcenv s₄=>
  codeAny (model X.prog X.w) X.A (.compStart (.ListComp elt [⟨tg,iter,ifs,0⟩] scope pos) 0 (.ref it) acc { cenv with scope:=relabel scope X.env }) (RR acc cenv.locals) s₄) X.xe s₃) X.xe s2:=by
 have hfl:∀b∈fp,b<s2.heap.objs.size:=λb hb=>by
  obtain⟨o,e,_⟩:=T.obj _ _ st2 b hb
  exact Heap.lt_size e
 refine wpAny_newObj_type (wpAny_newFunctionEnv S.cell (by intro y hy;simp at hy) (λh₁ hns₁ hsb₁=>?_) S.kind)
 dsimp only at hns₁ hsb₁ ⊢
 generalize hG:s2.heap.push { cls:=.type "list",dict:=none,data:=.seq ([]:List Value).toArray }=G at hns₁ hsb₁ ⊢
 have vg:G.objs.size=s2.heap.objs.size+1:=by rw[<-hG,Heap.size_push]
 have hC:s2.heap.objs.size<=G.objs.size:=by rw[vg];exact Nat.le_succ _
 have hDC:s2.heap.objs.size≠G.objs.size:=by rw[vg];exact Nat.ne_of_lt (Nat.lt_succ_self _)
 have old:∀b o,s2.heap.get? b=some o->h₁.get? b=some o:=λb o e=>
  hsb₁.extBut b o (Nat.ne_of_lt (Nat.lt_of_lt_of_le (Heap.lt_size e) hC)) (Heap.get?_push_of_some _ (hG ▸ Heap.get?_push_of_some _ e))
 have hacc:h₁.get? s2.heap.objs.size=some (iT [] 0):=hsb₁.extBut _ _ hDC (Heap.get?_push_of_some _ (hG ▸ Heap.get?_push_size _ rfl))
 have I3:=I2.block (cl:=cl) (t':=s2.toks+([]:List (Str × Value)).length) S f2 hfl hsub hget hC (Nat.le_refl _) hDC hns₁ old hacc
 have st3:tn 0 h₁:=T.keep _ _ _ st2 λb _ o e=>old b o e
 have xP:∀b∈fp,H2 b=none:=λb hb=>(f2 b hb).1
 have stat:∀{H':Hp} {us:List Value} {n:Nat},(∀b∈fp,H' b=none)->∀b∈fp,fX (fj X own scope cl G.objs.size fp s2 H2) [(s2.heap.objs.size,iT us n)] H' b:=λ{H' us n} hn b hb=>by
  refine⟨hn b hb,Nat.ne_of_lt (Nat.lt_of_lt_of_le (hfl b hb) hC),λz=>?_,.inl hb,λx c e=>(f2 b hb).2.2.2.2.1 x c (hsub x c e),λp hp=>?_⟩
  . rcases List.mem_cons.mp (I2.rQ b z) with q|q
    . exact(f2 b hb).2.1 q
    . exact(f2 b hb).2.2.1 q
  . have hp:p∈([]++[(s2.heap.objs.size,iT us n)]:List (Addr × Obj)):=hp
    have e:p=(s2.heap.objs.size,iT us n):=by simpa using hp
    subst e
    exact Nat.ne_of_gt (hfl b hb)
 have loop:∀s₃:Shared,s₃={ s2 with heap:=h₁,toks:=s2.toks+([]:List (Str × Value)).length }->
  codeAny (model X.prog X.w) X.A (.compLoop (.ListComp elt [⟨tg,iter,ifs,0⟩] scope pos) 0 (.ref it) (.ref s2.heap.objs.size) (compEnvC scope cl G.objs.size X.env))
   (RR (.ref s2.heap.objs.size) G.objs.size) s₃:=by
  rintro s₃ rfl
  refine abM (λn s'=>∃i ys us k H',Inv (fj X own scope cl G.objs.size fp s2 H2) [(s2.heap.objs.size,iT us k)] (List.replicate own.length none++σ) H' s'/\Vals ys us/\ys.length<=sizeLine/\tn i s'.heap/\(∀b∈fp,H' b=none)/\W i n ys H')
   ?_ m0 ⟨0,[],[],0,H2,I3,.nil,Nat.zero_le _,st3,xP,w0⟩
  rintro n s4 ⟨i,ys,us,k,H4,I4,r4,z4,Qp,Qq,w4⟩
  rcases turn i n ys H4 w4 with⟨stop,qn⟩|⟨go,hlt,step⟩
  . refine aO (T.done (fj X own scope cl G.objs.size fp s2 H2) rfl rfl rfl hc i _ s4 _ H4 (λ_ _=>False) I4 (stat Qq) Qp stop) λr s5 ⟨hr,I5⟩=>?_
    subst hr
    exact hRR G.objs.size s2.heap.objs.size s5 H4 ys us k hC (Nat.le_refl _) hDC I5 r4 z4 qn
  . refine aO (T.item (fj X own scope cl G.objs.size fp s2 H2) rfl rfl rfl hc i _ s4 _ H4 (λ_ _=>False) I4 (stat Qq) Qp go) λr s5 ⟨u,hr,h5⟩=>?_
    subst hr
    refine aO h5 λ_ s6 ⟨x,H6,I6,r6,y6,vh,fr6⟩=>?_
    have I6':=I6.pinned (stat fr6) (T.obj _ _ vh)
    refine aO (hg cl G.objs.size fp s2 H2 _ s6 _ H6 x u _ I6' r6 (step x H6 y6)) λ_ s7 ⟨σ7,H7,I7,d7,q7⟩=>?_
    refine aO (ht cl G.objs.size fp s2 H2 _ s7 σ7 H7 _ I7 q7) λb s8 ⟨H8,I8,q8⟩=>?_
    have hlen:(List.replicate own.length none++σ).length=σ7.length:=by rw[I7.len,<-I6.len]
    have back:∀(j:Nat) v,(List.replicate own.length none++σ)[j]? =some (some v)->σ7[j]? =some (some v):=λj v e=>by
     obtain⟨hk,e'⟩:=Qn e
     rw[<-d7,List.getElem?_drop] at e'
     rw[<-e']
     congr 1
     omega
    cases b with
    |false=>
     have q8:∃m',m'<n/\W (i+1) m' ys H8:=q8
     obtain⟨m',hm,w8⟩:=q8
     refine⟨m',hm,i+1,ys,us,k,H8,I8.oJ.weak hlen back,r4,z4,T.keep _ _ _ vh λb hb o e=>?_,λb hb=>?_,w8⟩
     . exact(I8.pin (b,o) (List.mem_append_right _ (List.mem_append_right _ (uR hb e)))).1
     . obtain⟨o,e,d⟩:=T.obj _ _ vh b hb
       exact(I8.pin (b,o) (List.mem_append_right _ (List.mem_append_right _ (uR hb e)))).2.1
    |true=>
     have q8:te σ7 H8 λy H9=>∃m',m'<n/\W (i+1) m' (ys++[y]) H9:=q8
     show wpAny _ _ _ _ _ _
     refine aO (he cl G.objs.size fp s2 H2 _ s8 σ7 H8 _ I8 q8) λyv s9 ⟨y,H9,I9,r9,m',hm,w9⟩=>?_
     obtain⟨eD,nD,ne1,ne2,_⟩:=I9.pin (s2.heap.objs.size,iT us k) (List.mem_append_right _ (List.mem_append_left _ List.mem_cons_self))
     have hl:=r4.length
     refine append_at (hsz:=by rw[List.size_toArray,<-hl];exact z4) eD λh10 Qs abS=>?_
     have hpin:∀b∈fp,∀o,s6.heap.get? b=some o->s9.heap.get? b=some o/\H9 b=none:=λb hb o e=>by
      have q:=I9.pin (b,o) (List.mem_append_right _ (List.mem_append_right _ (uR hb e)))
      exact⟨q.1,q.2.1⟩
     have neD:∀b∈fp,b≠s2.heap.objs.size:=λb hb=>Nat.ne_of_lt (hfl b hb)
     have I9':Inv (fj X own scope cl G.objs.size fp s2 H2) [] σ7 H9 s9:=I9.qC λp hp=>(nomatch hp)
     have I10:Inv (fj X own scope cl G.objs.size fp s2 H2) [] σ7 H9 { s9 with heap:=h10 }:=
      I9'.turned (t':=s9.toks) (λb o hb e=>Qs.extBut b o hb e) nD ne1 (.inr (Nat.le_refl _)) (λx c e z=>by
       obtain⟨v,q⟩:=I2.cell x c (hsub x c e)
       exact absurd q.lt (by rw[z];exact Nat.lt_irrefl _)) λp hp=>(nomatch hp)
     have I11:Inv (fj X own scope cl G.objs.size fp s2 H2) [(s2.heap.objs.size,iT (us++[yv]) (k+1))] σ7 H9 { s9 with heap:=h10 }:=I10.qC λp hp=>by
      have e:p=(s2.heap.objs.size,iT (us++[yv]) (k+1)):=by simpa using hp
      subst e
      refine⟨?_,nD,ne1,ne2,λv z=>by
       have z:Data.seq (us++[yv]).toArray (k+1)=Data.cell v:=z
       cases z⟩
      show h10.get? _=some { cls:=.type "list",data:=.seq (us++[yv]).toArray (k+1) }
      rw[<-List.push_toArray]
      exact abS
     refine⟨m',hm,i+1,ys++[y],us++[yv],k+1,H9,I11.weak hlen back,r4.append (.cons r9 .nil),by rw[List.length_append,List.length_singleton];exact hlt,T.keep _ _ _ vh λb hb o e=>Qs.extBut b o (neD b hb) (hpin b hb o e).1,λb hb=>?_,w9⟩
     obtain⟨o,e,d⟩:=T.obj _ _ vh b hb
     exact(hpin b hb o e).2
 exact codeAny_compStart_list (loop _ rfl) (T.self _ 0 _ _ _ st3 (loop _ rfl))
theorem rY {tg iter elt:Expr}{ifs:List Expr}{pos:Pos}{wi:TI}{g:TG}{tt:TT}{te:TE}(hc:X.calm=true)(S:fZ X own scope)(hi:PI X tg iter wi)
 (hg:∀cl C fp s₂ H₂,PG (fj X own scope cl C fp s₂ H₂) tg g) (ht:∀cl C fp s₂ H₂,yr (fj X own scope cl C fp s₂ H₂) ifs tt)
 (he:∀cl C fp s₂ H₂,PE (fj X own scope cl C fp s₂ H₂) elt te) (hs:∀x,foldedSetIterable iter X.env x=pure x:=by intro _;rfl):
 PE X (.ListComp elt [⟨tg,iter,ifs,0⟩] scope pos) (Cw own.length wi g tt te):=by
 intro pins s σ H Q I h
 obtain⟨cl,hclos,hsub,hget⟩:=Cu (S.cells I)
 rw[eval_ListComp]
 refine wpAny_comprehension_free (use:=none) rfl hs hclos S.kind S.names ?_
 refine aO (hi pins s σ H _ I h) λv s1 h1=>aO h1 λitv s2 h2=>?_
 obtain⟨it,fp,tn,J,H2,Cz,I2,T,st2,f2,W,⟨m0,w0⟩,turn⟩:=h2
 subst Cz
 refine Qo (RR:=λacc C=>compPost (model X.prog X.w) X.A X.xe none (EP X pins σ Q) acc C) hc S hsub hget I2 T st2 f2 w0 turn hg ht he ?_
 intro C D s5 H5 ys us k hC hD hDC I5 r5 z5 fin
 obtain⟨m5,n5,_⟩:=id I5.loc
 refine⟨m5,n5,λh' hs'=>?_⟩
 obtain⟨I6,nD⟩:=I2.unblock f2 I5 List.mem_cons_self hC hD hDC r5 z5 hs'
 exact⟨.ref D,_,I6,rfl,fin _ nD⟩
theorem abX {i:Nat}{y:Str}{py spos:Pos}{tg iter elt:Expr}{ifs:List Expr}{pos:Pos}{wi:TI}{g:TG}{tt:TT}{te:TE}(hN:X.N.Nodup)(hy:X.N[i]? =some y)(hL:Loc X.env.scope y)(hc:X.calm=true)(S:fZ X own scope)(hi:PI X tg iter wi)
 (hg:∀cl C fp s₂ H₂,PG (fj X own scope cl C fp s₂ H₂) tg g) (ht:∀cl C fp s₂ H₂,yr (fj X own scope cl C fp s₂ H₂) ifs tt)
 (he:∀cl C fp s₂ H₂,PE (fj X own scope cl C fp s₂ H₂) elt te) (hf:X.fn y=true\/X.env.scope.names.lookup y=some .local:=by first|exact .inl rfl|exact .inr rfl|assumption)
 (hsw:swapsWith (.ListComp elt [⟨tg,iter,ifs,0⟩] scope pos) (some (.Name y py)) spos.line X.env=pure true:=by rfl) (hs:∀x,foldedSetIterable iter X.env x=pure x:=by intro _;rfl):
 PS X (.Assign [.Name y py] (.ListComp elt [⟨tg,iter,ifs,0⟩] scope pos) spos) (mL (Cw own.length wi g tt te) (dG i)):=by
 intro pins s σ H E I h
 obtain⟨cl,hclos,hsub,hget⟩:=Cu (S.cells I)
 rw[exec_Assign_Name_used _ _ _ _ hsw]
 refine wpAny_bind (wpAny_standAt (wpAny_bind ?_))
 show wpAny _ _ (do let _ <-comprehension _ scope X.env _ (newList []) false (eval iter X.env) (some (assign (.Name y py) X.env))) _ _ s
 refine wpAny_bind (aO (wpAny_comprehension_free (use:=some (assign (.Name y py) X.env)) (Q:=λ_ s'=>SP X pins E .next s') rfl hs hclos S.kind S.names
  (aO (hi pins s σ H _ I h) λv s1 h1=>aO h1 λitv s2 h2=>?_)) λ_ s' hq=>wpAny_pure (wpAny_pure hq))
 obtain⟨it,fp,tn,J,H2,Cz,I2,T,st2,f2,W,⟨m0,w0⟩,turn⟩:=h2
 subst Cz
 refine Qo (RR:=λacc C=>compPost (model X.prog X.w) X.A X.xe (some (assign (.Name y py) X.env)) (λ_ s'=>SP X pins E .next s') acc C) hc S hsub hget I2 T st2 f2 w0 turn hg ht he ?_
 intro C D s5 H5 ys us k hC hD hDC I5 r5 z5 fin
 obtain⟨m5,n5,_⟩:=id I5.loc
 obtain⟨I6,nD⟩:=I2.unblock f2 I5 List.mem_cons_self hC hD hDC r5 z5 (Heap.SameBut.refl C s5.heap)
 obtain⟨oC,es,ep,eC,dC,rC⟩:=id n5
 have nC:upd H5 D (.lst ys) C=none:=by rw[au (Ne.symm hDC)];exact I5.free
 have cl2:C≠X.env.locals:=Nat.ne_of_gt (Nat.lt_of_lt_of_le I2.lt hC)
 have abY:∀x c,X.env.cells.lookup x=some c->c≠C:=λx c e z=>by
  obtain⟨v,q⟩:=I2.cell x c e
  exact absurd q.lt (by rw[z];exact Nat.not_lt.mpr hC)
 have abZ:∀p∈X.pn++pins,p.1≠C:=λp hp z=>by
  have:=Heap.lt_size (I2.pin p hp).1
  rw[z] at this
  exact absurd this (Nat.not_lt.mpr hC)
 have I7:Inv X (pins++[(C,oC)]) σ (upd H5 D (.lst ys)) s5:=by
  refine I6.qC λp hp=>?_
  rcases List.mem_append.mp hp with z|z
  . exact I6.pin p (List.mem_append_right _ z)
  . have e:p=(C,oC):=by simpa using z
    subst e
    exact⟨eC,nC,cl2,I2.rP hC,λv z=>by
     have z:oC.data=Data.cell v:=z
     rw[dC] at z;cases z⟩
 show wpAny _ _ (assign (.Name y py) X.env (.ref D)) _ _ s5
 refine wpAny_assign_Name (uL (v:=.ref D) I7 hN hy hL rfl (λs8 I8=>?_) hf)
 obtain⟨eC8,nC8,_⟩:=I8.pin (C,oC) (List.mem_append_right _ (List.mem_append_right _ List.mem_cons_self))
 refine⟨_,⟨oC,es,ep,eC8,dC,rC⟩,λh' hs'=>?_⟩
 have I9:Inv X pins (σ.set i (some (.ref D))) (upd H5 D (.lst ys)) { s8 with heap:=h' }:=
  I8.oJ.turned (t':=s8.toks) (λb o hb e=>(hs'.2 b hb).trans e) nC cl2 (.inr (Nat.le_trans I2.sz hC)) abY abZ
 exact⟨_,_,I9,fin _ nD⟩
end
section
variable {X:Cx}
theorem gY:eZ X (.builtin "isinstance") (λxs H Q=>∃x T t b,xs=[x,.ty T]/\jm X.K H x t/\W.kitOne X.K t (.type T)=some b/\Q (.bl b) H):=by
 intro pins s σ H xs us Q I r h
 obtain⟨x,T,t,b,rfl,ty,e,q⟩:=h
 obtain⟨u,c,rfl,ru,rc⟩:=vals2 r
 cases rc
 exact aaI I ru ty e λtk=>⟨.bl b,H,I.tok tk,rfl,q⟩
theorem Qt:eZ X (.builtin "len") (λxs H Q=>(∃a kvs,xs=[V.ref a]/\H a=some (.dK kvs)/\Q (.int kvs.length) H)\/∃p ys,xs=[.ref p]/\(aq X.K H p ys\/aN X.K H p ys)/\Q (.int ys.length) H):=by
 intro pins s σ H xs us Q I r h
 rcases h with h|h
 . exact Cq pins s σ H xs us Q I r h
 . exact gG pins s σ H xs us Q I r h
theorem Qu:∀{ss:List Str}{vs:List Value},Vals (ss.map V.str) vs->StrsAre vs ss
 |[],_,r=>by cases r;exact .nil
 |y::r,_,h=>by
  cases h with
  |cons a b=>
   obtain⟨t,e⟩:=a
   subst e
   exact .cons y t (Qu b)
theorem Qv:∀{vs:List Value}{ss:List Str},StrsAre vs ss->Vals (ss.map V.str) vs
 |_,_,.nil=>.nil
 |_,_,.cons y t h=>.cons ⟨t,rfl⟩ (Qv h)
theorem Qw:eZ X (.builtin "sorted") (λxs H Q=>∃a ss,xs=[.ref a]/\aq X.K H a (ss.map V.str)/\ss.length<64/\
 ∀p ss',H p=none->ss'.Perm ss->sortedS ss'=true->Q (.ref p) (upd H p (.lst (ss'.map V.str)))):=by
 intro pins s σ H xs us Q I r h
 obtain⟨a,ss,rfl,hq,h64,q⟩:=h
 obtain⟨u,rfl,ru⟩:=vals1 r
 cases ru
 obtain⟨its,rv,pl,hz⟩:=I.list hq
 have hl:its.length=ss.length:=by rw[<-rv.length,List.length_map]
 refine sorted_strs pl.isList (Qu rv) (by omega) λout ss' h1 h2 h3=>?_
 obtain⟨e,he⟩:=sortedAll_at s.heap its out
 refine⟨.ref (s.heap.objs.size+1),upd H (s.heap.objs.size+1) (.lst (ss'.map V.str)),I.laid (t':=s.toks) (λ_ _=>sortedAll_old) (Nat.le_succ _) ?_,rfl,q _ ss' (I.hok.fresh (Nat.le_succ _)) h2 h3⟩
 refine⟨?_,out.toList,e,Qv h1,he⟩
 rw[List.length_map,h2.length_eq]
 have:ss.length<=1000:=by omega
 exact Nat.le_of_lt (dX this)
noncomputable def qT (its:List Value) (i:Nat):Bool:=match its[i]? with
 |some (.bool b)=>b
 |_=>false
theorem ab1:∀{bs:List Bool}{its:List Value},Vals (bs.map V.bl) its->(List.range its.length).all (qT its)=bs.all id:=by
 intro bs its r
 have key:∀i,i<bs.length->qT its i=bs.getD i false:=λi hi=>by
  have e:(bs.map V.bl)[i]? =some (.bl bs[i]):=by rw[List.getElem?_map,List.getElem?_eq_getElem hi];rfl
  obtain⟨u,hu,ru⟩:=r.get e
  cases ru
  unfold qT
  rw[hu,List.getD_eq_getElem?_getD,List.getElem?_eq_getElem hi]
  rfl
 have hl:its.length=bs.length:=by rw[<-r.length,List.length_map]
 rw[hl,Bool.eq_iff_iff,List.all_eq_true,List.all_eq_true]
 constructor
 . intro h b hb
   obtain⟨i,hi,e⟩:=List.getElem_of_mem hb
   have q:=h i (List.mem_range.mpr hi)
   rw[key i hi,List.getD_eq_getElem?_getD,List.getElem?_eq_getElem hi,Option.getD_some,e] at q
   exact q
 . intro h i hi
   have hi':=List.mem_range.mp hi
   rw[key i hi',List.getD_eq_getElem?_getD,List.getElem?_eq_getElem hi',Option.getD_some]
   exact h _ (List.getElem_mem hi')
theorem Qx (hc:X.calm=true):eZ X (.builtin "all") (λxs H Q=>∃(a:Addr) (bs:List Bool),xs=[.ref a]/\aq X.K H a (bs.map V.bl)/\Q (.bl (bs.all id)) H):=by
 intro pins s σ H xs us Q I r h
 obtain⟨a,bs,rfl,hq,q⟩:=h
 obtain⟨u,rfl,ru⟩:=vals1 r
 cases ru
 obtain⟨its,rv,pl,hz⟩:=I.list hq
 have hlt:a<s.heap.objs.size:=by obtain⟨_,e,_⟩:=pl.isList;exact Heap.lt_size e
 refine call_all_walk (wpAny_pyIter_list pl.isList ?_)
 refine⟨s.heap.objs.size,_,_,_,_,_,qT its,rfl,Walks.list (show X.A.in1.handled=none from I.ok.hd hc) s.heap.objs.size a (Nat.ne_of_lt hlt) its.toArray,⟨⟨_,Heap.get?_push_size _ rfl,rfl,rfl⟩,pl.isList.push _⟩,λi v s' Q' E' hP hQ=>?_,λh' tk hk=>?_⟩
 . have e:its[i]? =some v:=by simpa using hP
   have hi:i<its.length:=(List.getElem?_eq_some_iff.mp e).1
   have hb:i<(bs.map V.bl).length:=by rw[rv.length];exact hi
   obtain⟨w',ew,iH⟩:=rv.get (List.getElem?_eq_getElem hb)
   rw[e] at ew;cases ew
   rw[List.getElem_map] at iH
   cases iH
   refine wpAny_truthy_bool ?_
   have eb:qT its i=bs[i]'(by simpa using hb):=by unfold qT;rw[e]
   rw[eb] at hQ
   exact hQ
 . have e:(List.range its.toArray.size).all (qT its)=bs.all id:=by rw[List.size_toArray];exact ab1 rv
   rw[e]
   have ns:H s.heap.objs.size=none:=I.hok.fresh (Nat.le_refl _)
   refine⟨.bl (bs.all id),H,I.kept (h':=h') (t':=tk) λb o eb=>hk b o ?_ (Heap.get?_push_of_some _ eb),rfl,q⟩
   intro hm
   have:b=s.heap.objs.size:=by simpa using hm
   exact absurd (Heap.lt_size eb) (by rw[this];exact Nat.lt_irrefl _)
noncomputable def Ite (K:W.Frag) (a:Addr):It:=
 ⟨λi H=>∃xs x,aq K H a xs/\xs[i]? =some x,
  λi H x H'=>∃p y,H p=none/\x=.ref p/\(∀xs,aq K H a xs->xs[i]? =some y)/\H'=upd H p (.tup [.int i,y]),
  λi H=>∃xs,aq K H a xs/\xs.length<=i⟩
theorem ab2 {P:Program}{w:World}{K:W.Frag}{elts:List Expr}{k:Nat}{tpos:Pos}{a e it:Addr}(hne:e≠it):
 Turn P w K (.Tuple elts k tpos) (Ite K a) [e,it] e (λi h=>∃old,IsEnum h e it (i:Int) old/\h.IsListIter it a i) where
 mem:=by simp
 obj:=λi h st b hb=>by
  obtain⟨old,h1,h2⟩:=st
  have hb:b=e\/b=it:=by simpa using hb
  rcases hb with rfl|rfl
  . exact⟨_,h1,λv z=>by
     have z:Data.fields _=Data.cell v:=z
     cases z⟩
  . obtain⟨o,q,c,d⟩:=h2
    exact⟨o,q,λv z=>by rw[d] at z;cases z⟩
 keep:=λi h h' st k=>by
  obtain⟨old,h1,h2⟩:=st
  exact⟨old,k e (by simp) _ h1,h2.at λo q=>k it (by simp) o q⟩
 item:=by
  intro X hP hw hK hc i pins s σ H E I hf st hg
  subst hP hw hK
  obtain⟨old,h1,h2⟩:=st
  obtain⟨xs,x,hq,hx⟩:=hg
  obtain⟨its,rv,p,hz⟩:=I.list hq
  obtain⟨u,hu,ru⟩:=rv.get hx
  obtain⟨e0,e1,e2,e3,e4,e5⟩:=hf e (by simp)
  obtain⟨f0,f1,f2,f3,f4,f5⟩:=hf it (by simp)
  have fr:H s.heap.objs.size=none:=I.hok.fresh (Nat.le_refl _)
  refine wpAny_pyNext_enum_item h1 h2 p.isList (x:=u) (by simpa using hu) hne λh' q1 q2 q3 q4 q5=>?_
  refine⟨_,rfl,wpAny_letOwnedTupleGo_enum (s:={ s with heap:=h',toks:=s.toks+1 }) q1 λh'' g1 g2=>?_⟩
  have ne1:∀b o,s.heap.get? b=some o->b≠s.heap.objs.size:=λb o q=>Nat.ne_of_lt (Heap.lt_size q)
  have kk:∀b o,b≠e->b≠it->s.heap.get? b=some o->h''.get? b=some o:=λb o n1 n2 q=>g2.extBut b o n1 (q5 b o n1 n2 q)
  have pe:s.heap.objs.size≠e:=Nat.ne_of_gt (Heap.lt_size h1)
  have tup:h''.get? s.heap.objs.size=some { cls:=.type "tuple",data:=.seq #[.int i s.toks,u] }:=g2.extBut _ _ pe q3
  have I1:Inv X pins σ (upd H s.heap.objs.size (.tup [.int i,x])) { s with heap:=h'',toks:=s.toks+1 }:=by
   refine I.step (g':=s.gens) (d':=s.drawn) (ch:=[e,it]) (λb hb=>?_) (λb o _ _ hc q _=>?_) (λb o _ _ hc q _=>?_) (λb o _ q n=>?_) (λb o hc q=>?_) (λb ys q=>?_) (λb o v q=>?_) (λb ps q=>?_) (λm hm=>?_) (λb o q=>?_) I.bare
   . have hb:b=e\/b=it:=by simpa using hb
     rcases hb with rfl|rfl
     . exact⟨e3,e1,e4,e5⟩
     . exact⟨f3,f1,f4,f5⟩
   . exact kk b o (λz=>hc (by simp[z])) (λz=>hc (by simp[z])) q
   . exact⟨o.slots,kk b o (λz=>hc (by simp[z])) (λz=>hc (by simp[z])) q⟩
   . rw[au (ne1 b o q)];exact n
   . exact⟨o,kk b o (λz=>hc (by simp[z])) (λz=>hc (by simp[z])) q⟩
   . rw[au (aR q fr)];exact q
   . rw[au (aR q fr)];exact q
   . exact⟨#[],by rw[au (aR q fr),q];simp⟩
   . obtain⟨o,es,ep,ho,r⟩:=hm
     exact⟨o,es,ep,kk _ o (Ne.symm e1) (Ne.symm f1) ho,r⟩
   . by_cases hb:b=s.heap.objs.size
     . subst hb
       rw[aD] at q;cases q
       refine⟨gO,[.int i s.toks,u],.cons ⟨_,rfl⟩ (.cons ru .nil),?_⟩
       exact⟨_,tup,rfl,_,rfl⟩
     . rw[au hb] at q
       refine(I.hok b o q).stay (λc v hc' z=>kk c v ?_ ?_ z) (λc z=>by rw[au (aR z fr)];exact z) λc ys z=>by rw[au (aR z fr)];exact z
       . rcases hc' with z|z
         . rw[z];exact aR q e0
         . exact aR z e0
       . rcases hc' with z|z
         . rw[z];exact aR q f0
         . exact aR z f0
  refine⟨.ref s.heap.objs.size,_,I1,rfl,⟨s.heap.objs.size,x,fr,rfl,λys hy=>by rw[I.xJ hy hq];exact hx,rfl⟩,⟨u,?_,q2.extBut g2.extBut (Ne.symm hne)⟩,λb hb=>?_⟩
  . have ei:((i+1:Nat):Int)=(i:Int)+1:=by omega
    show IsEnum h'' e it ((i+1:Nat):Int) u
    rw[ei];exact g1
  . have hb':b=e\/b=it:=by simpa using hb
    have hlt:b<s.heap.objs.size:=by
     rcases hb' with rfl|rfl
     . exact Heap.lt_size h1
     . obtain⟨o,q,_⟩:=h2;exact Heap.lt_size q
    rw[au (Nat.ne_of_lt hlt)]
    exact(hf b hb).1
 done:=by
  intro X hP hw hK hc i pins s σ H E I hf st hg
  subst hP hw hK
  obtain⟨old,h1,h2⟩:=st
  obtain⟨xs,hq,hx⟩:=hg
  obtain⟨its,rv,p,hz⟩:=I.list hq
  obtain⟨f0,f1,f2,f3,f4,f5⟩:=hf it (by simp)
  have hl:=rv.length
  exact wpAny_pyNext_enum_end (I.ok.hd hc) h1 h2 p.isList (by simp;omega) λh' eb=>⟨rfl,I.turned (t':=s.toks) (λb o hb q=>eb b o hb q) f0 f1 f3 f4 f5⟩
 self:=λA i s Q E st q=>by
  obtain⟨old,h1,_⟩:=st
  exact wpAny_pyIter_enum h1 q
noncomputable def ab3 (K:W.Frag) (ta:TA):TI:=λσ H R=>ta σ H λvs H1=>∃a,vs=[.ref a]/\(∃xs,aq K H1 a xs)/\R (Ite K a) H1
theorem ab4:bootBuiltins "enumerate"=some (.type "enumerate"):=by decide +kernel
theorem CG {a:Expr}{ta:TA}{p pos tpos:Pos}{elts:List Expr}{k:Nat}(hg:Gl X "enumerate")(hm:X.mg "enumerate"=none)(ha:PA X [a] ta)(hs:starEach [a] X.env=[(false,eval a X.env)]:=by rfl):
 PI X (.Tuple elts k tpos) (.Call (.Name "enumerate" p) [a] [] pos) (ab3 X.K ta):=by
 intro pins s σ H R I h
 refine Call_ (oA I hg hm ab4 (PyProof.Rows.callWith_type1 (aO (ha pos pins s σ H _ I h) λus s1 ⟨vs,H1,I1,r1,q1⟩=>?_) hs rfl))
 obtain⟨l,e,⟨xs,hq⟩,q⟩:=q1
 subst e
 obtain⟨u,rfl,ru⟩:=vals1 r1
 cases ru
 obtain⟨its,rv,pl,hz⟩:=I1.list hq
 refine call_enumerate_list pl.isList λh' q1 q2 q3 q4=>?_
 refine wpAny_pyIter_enum q1 ?_
 have I2:Inv X pins σ H1 { s1 with heap:=h' }:=I1.kept (t':=s1.toks) q4
 refine⟨s1.heap.objs.size+1,[s1.heap.objs.size+1,s1.heap.objs.size],_,_,H1,rfl,I2,ab2 (Nat.ne_of_gt (Nat.lt_succ_self _)),⟨.none,q1,q2⟩,λb hb=>?_,q⟩
 have hb:s1.heap.objs.size<=b:=by
  have hb:b=s1.heap.objs.size+1\/b=s1.heap.objs.size:=by simpa using hb
  rcases hb with z|z
  . rw[z];exact Nat.le_succ _
  . rw[z];exact Nat.le_refl _
 exact I1.qF hb (I1.hok.fresh hb)
theorem boot_zip:bootBuiltins "zip"=some (.type "zip"):=by decide +kernel
theorem ab5:dJ X (binaryOp .Mult) (λx y H Q=>∃z i,x=.str z/\y=.int i/\MulOk z i/\Q (.str (Txt.mul z i)) H):=by
 intro pins s σ H x y v u Q I rx ry h
 obtain⟨z,i,rfl,rfl,ok,q⟩:=h
 obtain⟨t,rfl⟩:=rx
 obtain⟨t',rfl⟩:=ry
 exact SB.mul ok λt2 k=>⟨.str (Txt.mul z i),H,I.tok k,⟨_,rfl⟩,q⟩
theorem Qy {v:Value}{o:Option Int}(h:IsPart v o):(v=.none/\o=none)\/∃i t,v=.int i t/\o=some i:=by
 cases h with
 |none=>exact .inl ⟨rfl,rfl⟩
 |int i t=>exact .inr ⟨i,t,rfl,rfl⟩
theorem Qz:B_ X (λx lo hi H Q=>∃z,x=.str z/\z.length<=sizeLine/\Q (.str (Txt.slice z lo hi)) H):=by
 intro pins s σ H x v vl vu lo hi sl Q I rx hs pl pu h
 obtain⟨z,rfl,hz,q⟩:=h
 obtain⟨t,rfl⟩:=rx
 have fin:∀{lo hi:Option Int} (q:Q (.str (Txt.slice z lo hi)) H),(Txt.slice z lo hi).length<=sizeLine/\∀t' k,EP X pins σ Q (.str (Txt.slice z lo hi) t') { s with toks:=k }:=
  λq=>⟨Nat.le_trans (Txt.slice_le z _ _) hz,λt' k=>⟨.str _,H,I.tok k,⟨t',rfl⟩,q⟩⟩
 refine⟨"str",_,F.slot_str_getitem.lookup,typeIs_str _ _ _,?_⟩
 obtain⟨o,ho,hc,hd⟩:=hs
 rcases Qy pl with⟨e1,rfl⟩|⟨i,ti,e1,rfl⟩ <;> rcases Qy pu with⟨e2,rfl⟩|⟨j,tj,e2,rfl⟩ <;> subst e1 <;> subst e2
 . exact wpAny_getItem_str_slice (l:=none) (u:=none) (st:=none) ⟨o,ho,hc,hd⟩ rfl (post_val_or_str (fin q))
 . exact wpAny_getItem_str_slice (l:=none) (u:=some (j,tj)) (st:=none) ⟨o,ho,hc,hd⟩ rfl (post_val_or_str (fin q))
 . exact wpAny_getItem_str_slice (l:=some (i,ti)) (u:=none) (st:=none) ⟨o,ho,hc,hd⟩ rfl (post_val_or_str (fin q))
 . exact wpAny_getItem_str_slice (l:=some (i,ti)) (u:=some (j,tj)) (st:=none) ⟨o,ho,hc,hd⟩ rfl (post_val_or_str (fin q))
end
theorem yes {σ:St}{H:Hp}{Q:Bool->Hp->Prop}(h:Q true H):lR σ H Q:=h
section
variable {K:W.Frag}{σ:St}{H:Hp}{Q:VK}{D:Ends}
theorem CJ {i:Nat}{a b:Str}{T U:TS}(h:σ[i]? =some (some (.str a)))(hy:decide (V.str a=V.str b)=true)(q:T D σ H):lH (uV (jF uU (fW i) (tC (.str b)))) T U D σ H:=
 ⟨_,h,rfl,_,rfl,by rw[hy];exact cZ q⟩
theorem yt {i:Nat}{a b:Str}{T U:TS}(h:σ[i]? =some (some (.str a)))(hy:decide (V.str a=V.str b)=false)(q:U D σ H):lH (uV (jF uU (fW i) (tC (.str b)))) T U D σ H:=
 ⟨_,h,rfl,_,rfl,by rw[hy];exact bU q⟩
theorem oN {i:Nat}{p:Addr}{xs:List V}{a b:Str}{T U:TS}(h:σ[i]? =some (some (.ref p)))(h2:H p=some (.tup xs))(h3:xs[0]? =some (.str a))(hy:decide (V.str a=V.str b)=true)(q:T D σ H):
 lH (uV (jF uU (jF (u0 K) (fW i) (tC (.int 0))) (tC (.str b)))) T U D σ H:=
 ⟨_,h,p,xs,0,.str a,rfl,rfl,aN.of h2,iG (j:=0) h3,rfl,_,rfl,by rw[hy];exact cZ q⟩
theorem jx {i:Nat}{p:Addr}{xs:List V}{a b:Str}{T U:TS}(h:σ[i]? =some (some (.ref p)))(h2:H p=some (.tup xs))(h3:xs[0]? =some (.str a))(hy:decide (V.str a=V.str b)=false)(q:U D σ H):
 lH (uV (jF uU (jF (u0 K) (fW i) (tC (.int 0))) (tC (.str b)))) T U D σ H:=
 ⟨_,h,p,xs,0,.str a,rfl,rfl,aN.of h2,iG (j:=0) h3,rfl,_,rfl,by rw[hy];exact bU q⟩
end
end L2
namespace L2
open PySem
noncomputable def QB (own N:List Str) (scope sc:Scope):Bool:=
 scope.names.all (λy=>decide (y.2≠ .cell)) && scope.names.all (λy=>decide (y.2=.local->scope.names.lookup y.1=some .local)) &&
 scope.names.all (λy=>decide (y.2=.free->sc.names.lookup y.1=some .cell\/sc.names.lookup y.1=some .free)) && decide (own++N).Nodup && N.all λx=>decide (scope.names.lookup x≠some .local)
theorem fZ.of {X:Cx}{own N:List Str}{scope sc:Scope}(hsc:X.env.scope=sc)(hN:X.N=N)(k:scope.kind=.function)(c:QB own N scope sc=true):fZ X own scope:=by
 unfold QB at c
 simp only[Bool.and_eq_true,List.all_eq_true,decide_eq_true_eq] at c
 obtain⟨⟨⟨⟨c1,c2⟩,c3⟩,c4⟩,c5⟩:=c
 exact⟨k,c1,c2,λy hy hf=>by rw[show X.env.kindOf y.1=X.env.scope.names.lookup y.1 from rfl,hsc];exact c3 y hy hf,by rw[hN];exact c4,by rw[hN];exact c5⟩
end L2
namespace m8
open PySem PySem.W PyProof.Rows
noncomputable def bH {α:Type}(f:Nat->Nat->Bool):KasT α->α
 | .ret a=>a
 | .ask i j k=>bH f (k (f i j))
theorem rZ {α β:Type}(f:Nat->Nat->Bool)(g:α->KasT β):∀t:KasT α,bH f (t.bind g)=bH f (g (bH f t))
 | .ret _=>rfl
 | .ask i j k=>rZ f g (k (f i j))
noncomputable def Bn {α:Type}(n:Nat) (R:α->Prop):KasT α->Prop
 | .ret a=>R a
 | .ask i j k=>i<n/\j<n/\∀b,Bn n R (k b)
theorem Bn.bind {α β:Type}{n:Nat}{R:α->Prop}{S:β->Prop}{g:α->KasT β}:∀{t:KasT α},Bn n R t->(∀a,R a->Bn n S (g a))->Bn n S (t.bind g)
 | .ret a,h,k=>k a h
 | .ask i j q,h,k=>⟨h.1,h.2.1,λb=>Bn.bind (h.2.2 b) k⟩
theorem QC {α:Type}{n:Nat}{R:α->Prop}{f:Nat->Nat->Bool}{cmp:Nat->Nat->(Bool->Shared->Prop)->Shared->Prop}{Q:α->Shared->Prop}{s:Shared}
 (h:∀i j (C:Bool->Shared->Prop),i<n->j<n->C (f i j) s->cmp i j C s):∀{t:KasT α},Bn n R t->Q (bH f t) s->t.kasWp cmp Q s
 | .ret a,_,q=>q
 | .ask i j k,b,q=>h i j _ b.1 b.2.1 (QC h (b.2.2 (f i j)) q)
noncomputable def Lt (n:Nat) (p:Array Nat):Prop:=0<n/\∀x∈p,x<n
theorem Lt.at {n:Nat}{p:Array Nat}(h:Lt n p)(i:Nat):p.getD i 0<n:=by
 rw[Array.getD_eq_getD_getElem?]
 cases e:p[i]? with
 |none=>exact h.1
 |some x=>exact h.2 x (Array.mem_of_getElem? e)
theorem Lt.perm {n:Nat}{p q:Array Nat}(h:Lt n p)(hp:q.Perm p):Lt n q:=⟨h.1,λx hx=>h.2 x (hp.mem_iff.mp hx)⟩
theorem m9 (p:Array Nat)(i j:Nat):(kas_rev p i j).Perm p:=mirror_perm _ _ _ _
theorem ab6 (p:Array Nat)(i j:Nat):(kas_rev p i j).size=p.size:=mirror_size _ _ _ _
theorem CK {n:Nat}{p:Array Nat}(h:Lt n p):∀f m,Bn n (λ_=>True) (kas_asc p f m)
 |0,_=>trivial
 |f+1,m=>⟨h.at _,h.at _,λb=>by
   cases b with
   |true=>exact trivial
   |false=>exact CK h f (m+1)⟩
theorem yu {n:Nat}:∀f (p:Array Nat) m q,Lt n p->Bn n (λr:Array Nat × Nat × Nat=>Lt n r.1) (kas_desc f p m q)
 |0,_,_,_,h=>h
 |f+1,p,m,q,h=>⟨h.at _,h.at _,λb=>by
   cases b with
   |true=>
    show Bn n _ (if q > 0 then kas_desc f (kas_rev p (m - (q+1)) m) (m+1) 0 else kas_desc f p (m+1) 0)
    split
    . exact yu f _ _ _ (h.perm (m9 _ _ _))
    . exact yu f _ _ _ h
   |false=>
    refine⟨h.at _,h.at _,λd=>?_⟩
    cases d with
    |true=>exact h
    |false=>exact yu f _ _ _ h⟩
theorem QD {n m r:Nat}{p:Array Nat}(h:Lt n p):Bn n (λq:Nat × Array Nat=>Lt n q.2) (kas_tail3 m r p):=
 (CK (h.perm (m9 _ _ _)) _ _).bind λ_ _=>h.perm (m9 _ _ _)
theorem QF {n m r:Nat}{p:Array Nat}(h:Lt n p):Bn n (λq:Nat × Array Nat=>Lt n q.2) (kas_descPart m r p):=by
 refine(yu _ _ _ _ h).bind λa ha=>?_
 split
 . exact QD (ha.perm (m9 _ _ _))
 . exact QD ha
theorem ab7 {n r:Nat}{p:Array Nat}(h:Lt n p):Bn n (λq:Nat × Array Nat=>Lt n q.2) (kas_count r p):=by
 refine(CK h _ _).bind λa _=>?_
 split
 . exact h
 split
 . refine⟨h.at _,h.at _,λb=>?_⟩
   cases b with
   |true=>exact h
   |false=>exact QF (h.perm (m9 _ _ _))
 . exact QF h
theorem CN {n k:Nat}{p:Array Nat}(h:Lt n p):∀f l r,Bn n (λ_=>True) (kas_place p k f l r)
 |0,_,_=>trivial
 |f+1,l,r=>by
  unfold kas_place
  split
  . exact trivial
  . refine⟨h.at _,h.at _,λb=>?_⟩
    cases b with
    |true=>exact CN h f _ _
    |false=>exact CN h f _ _
theorem QG {n:Nat}:∀f (p:Array Nat) k,Lt n p->Bn n (λ_=>True) (kas_bin f p k)
 |0,_,_,_=>trivial
 |f+1,p,k,h=>(CN h _ _ _).bind λl _=>QG f _ _ (h.perm (bubble_perm _ _ _))
theorem ab8 {n:Nat}(hn:0<n):Bn n (λ_=>True) (kas_sort n):=by
 have h:Lt n (List.toArray (List.range n)):=⟨hn,λx hx=>by simpa using hx⟩
 refine(ab7 h).bind λr hr=>?_
 split
 . exact QG _ _ _ hr
 . exact trivial
section
variable {O:KeyOrd}(key:Nat->O.α)
noncomputable def bT:Nat->Nat->Bool:=λi j=>O.blt (key i) (key j)
noncomputable def Kp (p:Array Nat) (i:Nat):O.α:=key (p.getD i 0)
noncomputable def jo (p:Array Nat) (k:Nat):Prop:=∀i j,i<=j->j<k->O.kle (Kp key p i) (Kp key p j)
noncomputable def jK (p:Array Nat) (k:Nat):Prop:=∀i j,i<=j->j<k->O.kle (Kp key p j) (Kp key p i)
variable {key}
theorem jo.succ {p:Array Nat}{n:Nat}(h:jo key p n)(h1:1<=n)(e:O.kle (Kp key p (n - 1)) (Kp key p n)):jo key p (n+1):=by
 intro i j hij hj
 by_cases hjn:j<n
 . exact h i j hij hjn
 . have:j=n:=by omega
   subst this
   by_cases hi:i=j
   . subst hi;exact KeyOrd.kle_refl _
   . exact KeyOrd.kle_trans (h i (j - 1) (by omega) (by omega)) e
theorem jK.succ {p:Array Nat}{n:Nat}(h:jK key p n)(h1:1<=n)(e:O.kle (Kp key p n) (Kp key p (n - 1))):jK key p (n+1):=by
 intro i j hij hj
 by_cases hjn:j<n
 . exact h i j hij hjn
 . have:j=n:=by omega
   subst this
   by_cases hi:i=j
   . subst hi;exact KeyOrd.kle_refl _
   . exact KeyOrd.kle_trans e (h i (j - 1) (by omega) (by omega))
theorem vm {p q:Array Nat}{i j:Nat}(h:p[i]? =q[j]?):Kp key p i=Kp key q j:=by
 unfold Kp
 rw[Array.getD_eq_getD_getElem?,Array.getD_eq_getD_getElem?,h]
theorem CP {p:Array Nat}{i j:Nat}(hj:j<=p.size)(k:Nat):Kp key (kas_rev p i j) k=if i<=k/\k<j then Kp key p (i+j - 1 - k) else Kp key p k:=by
 have e:=getElem?_mirror_all (i:=i) hj k
 by_cases h1:i<=k/\k<j
 . rw[if_pos h1] at e ⊢;exact vm e
 . rw[if_neg h1] at e ⊢;exact vm e
theorem CQ {p:Array Nat}{i j:Nat}(hj:j<=p.size)(heq:∀k,i<=k->k<j->Kp key p k=Kp key p (j - 1))(k:Nat):Kp key (kas_rev p i j) k=Kp key p k:=by
 rw[CP hj]
 split
 . rw[heq _ (by omega) (by omega),heq k (by omega) (by omega)]
 . rfl
theorem ab9 {p:Array Nat}{src d:Nat}(hs:src<p.size)(hd:d<=src)(k:Nat):
 Kp key (bubble p src d) k=if k=src - d then Kp key p src else if src - d<k/\k<=src then Kp key p (k - 1) else Kp key p k:=by
 have e:=getElem?_bubble hs d hd k
 by_cases h1:k=src - d
 . rw[if_pos h1] at e ⊢;exact vm e
 . rw[if_neg h1] at e ⊢
   by_cases h2:src - d<k/\k<=src
   . rw[if_pos h2] at e ⊢;exact vm e
   . rw[if_neg h2] at e ⊢;exact vm e
theorem jK.congr {p q:Array Nat}{n:Nat}(h:jK key p n)(e:∀k,Kp key q k=Kp key p k):jK key q n:=λi j a b=>by
 rw[e,e];exact h i j a b
theorem CV {p:Array Nat}:∀f n,1<=n->jo key p n->n<=bH (bT key) (kas_asc p f n)/\bH (bT key) (kas_asc p f n)<=n+f/\jo key p (bH (bT key) (kas_asc p f n))/\
 (bH (bT key) (kas_asc p f n)<n+f->O.klt (Kp key p (bH (bT key) (kas_asc p f n))) (Kp key p (bH (bT key) (kas_asc p f n) - 1)))
 |0,n,_,h=>⟨Nat.le_refl _,Nat.le_refl _,h,λz=>absurd z (Nat.lt_irrefl _)⟩
 |f+1,n,h1,h=>by
  have e:bH (bT key) (kas_asc p (f+1) n)=bH (bT key) (if O.blt (Kp key p n) (Kp key p (n - 1))=true then .ret n else kas_asc p f (n+1)):=rfl
  rw[e]
  cases c:O.blt (Kp key p n) (Kp key p (n - 1)) with
  |true=>
   rw[if_pos rfl]
   exact⟨Nat.le_refl _,Nat.le_add_right _ _,h,λ_=>c⟩
  |false=>
   rw[if_neg (by simp)]
   obtain⟨a1,a2,a3,a4⟩:=CV f (n+1) (by omega) (h.succ h1 c)
   exact⟨by omega,by omega,a3,λz=>a4 (by omega)⟩
structure DI (O:KeyOrd) (key:Nat->O.α) (p₀:Array Nat) (p:Array Nat) (n q:Nat):Prop where
 perm:p.Perm p₀
 non:jK key p n
 one:q+1<=n
 size:n<=p.size
 eq:∀k,n - (q+1)<=k->k<n->Kp key p k=Kp key p (n - 1)
theorem yw {p₀:Array Nat}:∀f (p:Array Nat) n q,DI O key p₀ p n q->n+f<=p₀.size->
 ∃p' n' q',bH (bT key) (kas_desc f p n q)=(p',n',q')/\DI O key p₀ p' n' q'/\n'<=n+f
 |0,p,n,q,d,_=>⟨p,n,q,rfl,d,Nat.le_refl _⟩
 |f+1,p,n,q,d,hs=>by
  have hsz:p.size=p₀.size:=d.perm.size_eq
  have e:bH (bT key) (kas_desc (f+1) p n q)=bH (bT key) (if O.blt (Kp key p n) (Kp key p (n - 1))=true then(if q > 0 then kas_desc f (kas_rev p (n - (q+1)) n) (n+1) 0 else kas_desc f p (n+1) 0)
   else .ask (p.getD (n - 1) 0) (p.getD n 0) λd=>if d=true then .ret (p,n,q) else kas_desc f p (n+1) (q+1)):=rfl
  rw[e]
  have one:=d.one
  cases c:O.blt (Kp key p n) (Kp key p (n - 1)) with
  |true=>
   rw[if_pos rfl]
   have cl:O.kle (Kp key p n) (Kp key p (n - 1)):=KeyOrd.kle_of_klt c
   by_cases hq:q > 0
   . rw[if_pos hq]
     have ek:∀k,Kp key (kas_rev p (n - (q+1)) n) k=Kp key p k:=CQ d.size d.eq
     have d':DI O key p₀ (kas_rev p (n - (q+1)) n) (n+1) 0:=⟨(m9 _ _ _).trans d.perm,(d.non.succ (by omega) cl).congr ek,by omega,by rw[ab6];omega,λk h1 h2=>by
      have:k=n:=by omega
      subst this;rfl⟩
     obtain⟨p',n',q',r1,r2,r3⟩:=yw f _ _ _ d' (by omega)
     exact⟨p',n',q',r1,r2,by omega⟩
   . rw[if_neg hq]
     have d':DI O key p₀ p (n+1) 0:=⟨d.perm,d.non.succ (by omega) cl,by omega,by omega,λk h1 h2=>by
      have:k=n:=by omega
      subst this;rfl⟩
     obtain⟨p',n',q',r1,r2,r3⟩:=yw f _ _ _ d' (by omega)
     exact⟨p',n',q',r1,r2,by omega⟩
  |false=>
   rw[if_neg (by simp)]
   have e2:bH (bT key) (.ask (p.getD (n - 1) 0) (p.getD n 0) λd=>if d=true then .ret (p,n,q) else kas_desc f p (n+1) (q+1))=bH (bT key) (if O.blt (Kp key p (n - 1)) (Kp key p n)=true then .ret (p,n,q) else kas_desc f p (n+1) (q+1)):=rfl
   rw[e2]
   cases c2:O.blt (Kp key p (n - 1)) (Kp key p n) with
   |true=>
    rw[if_pos rfl]
    exact⟨p,n,q,rfl,d,by omega⟩
   |false=>
    rw[if_neg (by simp)]
    have ee:Kp key p n=Kp key p (n - 1):=O.total _ _ c c2
    have d':DI O key p₀ p (n+1) (q+1):=⟨d.perm,d.non.succ (by omega) (by rw[ee];exact KeyOrd.kle_refl _),by omega,by omega,λk h1 h2=>by
     show Kp key p k=Kp key p n
     by_cases hk:k=n
     . rw[hk]
     . rw[ee];exact d.eq k (by omega) (by omega)⟩
    obtain⟨p',n',q',r1,r2,r3⟩:=yw f _ _ _ d' (by omega)
    exact⟨p',n',q',r1,r2,by omega⟩
noncomputable def vo (O:KeyOrd) (key:Nat->O.α) (p₀:Array Nat) (nrem:Nat) (r:Nat × Array Nat):Prop:=r.2.Perm p₀/\1<=r.1/\r.1<=nrem/\jo key r.2 r.1
theorem QH {p₀ p:Array Nat}{n nrem:Nat}(hp:p.Perm p₀)(h1:1<=n)(hn:n<=nrem)(hs:nrem<=p₀.size)(h:jK key p n):vo O key p₀ nrem (bH (bT key) (kas_tail3 n nrem p)):=by
 have hsz:p.size=p₀.size:=hp.size_eq
 unfold kas_tail3
 rw[rZ]
 have hS:jo key (kas_rev p 0 n) n:=λi j hij hj=>by
  rw[CP (by omega),CP (by omega),if_pos (by omega),if_pos (by omega)]
  exact h _ _ (by omega) (by omega)
 obtain⟨a1,a2,a3,_⟩:=CV (key:=key) (p:=kas_rev p 0 n) (nrem - n) n h1 hS
 exact⟨(m9 _ _ _).trans hp,by show 1<=bH _ _;omega,by show bH _ _<=nrem;omega,a3⟩
theorem QJ {p₀ p:Array Nat}{n nrem:Nat}(hp:p.Perm p₀)(h1:1<=n)(hn:n+1<=nrem)(hs:nrem<=p₀.size)(h:jK key p (n+1)):vo O key p₀ nrem (bH (bT key) (kas_descPart n nrem p)):=by
 have hsz:p.size=p₀.size:=hp.size_eq
 unfold kas_descPart
 rw[rZ]
 have d:DI O key p₀ p (n+1) 0:=⟨hp,h,by omega,by omega,λk h1 h2=>by
  have:k=n:=by omega
  subst this;rfl⟩
 obtain⟨p',n',q',r1,r2,r3⟩:=yw (key:=key) (nrem - (n+1)) p (n+1) 0 d (by omega)
 rw[r1]
 have o:=r2.one
 have sz:=r2.size
 have hsz':p'.size=p₀.size:=r2.perm.size_eq
 by_cases hq:q' > 0
 . show vo O key p₀ nrem (bH (bT key) (if q' > 0 then kas_tail3 n' nrem (kas_rev p' (n' - (q'+1)) n') else kas_tail3 n' nrem p'))
   rw[if_pos hq]
   exact QH ((m9 _ _ _).trans r2.perm) (by omega) (by omega) hs (r2.non.congr (CQ r2.size r2.eq))
 . show vo O key p₀ nrem (bH (bT key) (if q' > 0 then kas_tail3 n' nrem (kas_rev p' (n' - (q'+1)) n') else kas_tail3 n' nrem p'))
   rw[if_neg hq]
   exact QH r2.perm (by omega) (by omega) hs r2.non
theorem ab_ {p:Array Nat}{nrem:Nat}(h1:1<=nrem)(hs:nrem<=p.size):vo O key p nrem (bH (bT key) (kas_count nrem p)):=by
 unfold kas_count
 rw[rZ]
 obtain⟨a1,a2,a3,a4⟩:=CV (key:=key) (p:=p) (nrem - 1) 1 (Nat.le_refl _) (λi j hij hj=>by
  have e1:i=0:=by omega
  have e2:j=0:=by omega
  subst e1;subst e2;exact KeyOrd.kle_refl _)
 generalize bH (bT key) (kas_asc p (nrem - 1) 1)=n at *
 by_cases hn:n=nrem
 . rw[if_pos (by simpa using hn)]
   exact⟨Array.Perm.refl _,a1,by show n<=nrem;omega,a3⟩
 . rw[if_neg (by simpa using hn)]
   have cl:O.klt (Kp key p n) (Kp key p (n - 1)):=a4 (by omega)
   by_cases hg:n > 1
   . rw[if_pos hg]
     have e:bH (bT key) (.ask (p.getD 0 0) (p.getD (n - 1) 0) λc=>if c=true then .ret (n,p) else kas_descPart n nrem (kas_rev p 0 n))=
      bH (bT key) (if O.blt (Kp key p 0) (Kp key p (n - 1))=true then .ret (n,p) else kas_descPart n nrem (kas_rev p 0 n)):=rfl
     rw[e]
     cases c:O.blt (Kp key p 0) (Kp key p (n - 1)) with
     |true=>
      rw[if_pos rfl]
      exact⟨Array.Perm.refl _,a1,by show n<=nrem;omega,a3⟩
     |false=>
      rw[if_neg (by simp)]
      have all:∀k,0<=k->k<n->Kp key p k=Kp key p (n - 1):=λk _ hk=>by
       have c':O.kle (Kp key p (n - 1)) (Kp key p 0):=c
       exact KeyOrd.kle_antisymm (a3 k (n - 1) (by omega) (by omega)) (KeyOrd.kle_trans c' (a3 0 k (by omega) hk))
      have ek:∀k,Kp key (kas_rev p 0 n) k=Kp key p k:=CQ (by omega) all
      refine QJ (m9 _ _ _) a1 (by omega) hs (jK.congr (jK.succ (n:=n) (λi j hij hj=>?_) a1 (KeyOrd.kle_of_klt cl)) ek)
      rw[all i (by omega) (by omega),all j (by omega) (by omega)]
      exact KeyOrd.kle_refl _
   . rw[if_neg hg]
     have:n=1:=by omega
     subst this
     refine QJ (Array.Perm.refl _) a1 (by omega) hs (jK.succ (n:=1) (λi j hij hj=>?_) a1 (KeyOrd.kle_of_klt cl))
     have e1:i=0:=by omega
     have e2:j=0:=by omega
     subst e1;subst e2;exact KeyOrd.kle_refl _
theorem CW {p:Array Nat}{k:Nat}(h:jo key p k):∀f l r,l<=r->r<=k->r - l<=f->(∀i,i<l->O.kle (Kp key p i) (Kp key p k))->(∀i,r<=i->i<k->O.klt (Kp key p k) (Kp key p i))->
 ∃m,bH (bT key) (kas_place p k f l r)=m/\m<=k/\(∀i,i<m->O.kle (Kp key p i) (Kp key p k))/\(∀i,m<=i->i<k->O.klt (Kp key p k) (Kp key p i))
 |0,l,r,h1,h2,h3,h4,h5=>⟨l,rfl,by omega,h4,λi a b=>h5 i (by omega) b⟩
 |f+1,l,r,h1,h2,h3,h4,h5=>by
  by_cases hg:l ≥ r
  . refine⟨l,?_,by omega,h4,λi a b=>h5 i (by omega) b⟩
    unfold kas_place
    rw[if_pos hg];rfl
  . have e:bH (bT key) (kas_place p k (f+1) l r)=bH (bT key) (if O.blt (Kp key p k) (Kp key p ((l+r) / 2))=true then kas_place p k f l ((l+r) / 2) else kas_place p k f ((l+r) / 2+1) r):=by
     show bH (bT key) (if l ≥ r then .ret l else _)=_
     rw[if_neg hg];rfl
    rw[e]
    cases c:O.blt (Kp key p k) (Kp key p ((l+r) / 2)) with
    |true=>
     rw[if_pos rfl]
     exact CW h f _ _ (by omega) (by omega) (by omega) h4 λi a b=>KeyOrd.klt_of_klt_of_kle (show O.klt _ _ from c) (h _ _ a b)
    |false=>
     rw[if_neg (by simp)]
     exact CW h f _ _ (by omega) h2 (by omega) (λi a=>KeyOrd.kle_trans (h i ((l+r) / 2) (by omega) (by omega)) (show O.kle _ _ from c)) h5
theorem QK:∀f (p:Array Nat) k,jo key p k->k+f<=p.size->(bH (bT key) (kas_bin f p k)).Perm p/\jo key (bH (bT key) (kas_bin f p k)) (k+f)
 |0,p,k,h,_=>⟨Array.Perm.refl _,h⟩
 |f+1,p,k,h,hs=>by
  have e:bH (bT key) (kas_bin (f+1) p k)=bH (bT key) (kas_bin f (bubble p k (k - bH (bT key) (kas_place p k k 0 k))) (k+1)):=by
   show bH (bT key) ((kas_place p k k 0 k).bind λl=>kas_bin f (bubble p k (k - l)) (k+1))=_
   rw[rZ]
  rw[e]
  obtain⟨m,em,m1,m2,m3⟩:=CW h k 0 k (Nat.zero_le _) (Nat.le_refl _) (Nat.le_refl _) (λi z=>absurd z (Nat.not_lt_zero _)) (λi a b=>absurd a (by omega))
  rw[em]
  have kb:=λi=>ab9 (key:=key) (p:=p) (src:=k) (d:=k - m) (by omega) (by omega) i
  have hm:k - (k - m)=m:=by omega
  rw[hm] at kb
  have hS:jo key (bubble p k (k - m)) (k+1):=by
   intro i j hij hj
   rw[kb i,kb j]
   by_cases ei:i=m
   . rw[if_pos ei]
     by_cases ej:j=m
     . rw[if_pos ej];exact KeyOrd.kle_refl _
     . rw[if_neg ej,if_pos (by omega)]
       exact KeyOrd.kle_of_klt (m3 _ (by omega) (by omega))
   . rw[if_neg ei]
     by_cases li:m<i/\i<=k
     . rw[if_pos li,if_neg (by omega),if_pos (by omega)]
       exact h _ _ (by omega) (by omega)
     . rw[if_neg li]
       by_cases ej:j=m
       . rw[if_pos ej];exact m2 i (by omega)
       . rw[if_neg ej]
         by_cases lj:m<j/\j<=k
         . rw[if_pos lj];exact h _ _ (by omega) (by omega)
         . rw[if_neg lj];exact h _ _ hij (by omega)
  obtain⟨b1,b2⟩:=QK f (bubble p k (k - m)) (k+1) hS (by rw[bubble_size];omega)
  exact⟨b1.trans (bubble_perm _ _ _),by rw[show k+(f+1)=k+1+f by omega];exact b2⟩
theorem acd {n:Nat}(hn:1<=n):(bH (bT key) (kas_sort n)).toList.Perm (List.range n)/\((bH (bT key) (kas_sort n)).toList.map key).Pairwise O.kle:=by
 have hz:(List.toArray (List.range n)).size=n:=by simp
 obtain⟨c1,c2,c3,c4⟩:=ab_ (key:=key) (p:=List.toArray (List.range n)) (nrem:=n) hn (by omega)
 have main:(bH (bT key) (kas_sort n)).Perm (List.toArray (List.range n))/\jo key (bH (bT key) (kas_sort n)) n:=by
  unfold kas_sort
  rw[rZ]
  generalize bH (bT key) (kas_count n (List.toArray (List.range n)))=r at *
  obtain⟨m,p⟩:=r
  have hsz:p.size=n:=by rw[c1.size_eq,hz]
  by_cases hm:m<n
  . show(bH (bT key) (if m<n then kas_bin (n - max m 1) p (max m 1) else .ret p)).Perm _/\jo key (bH (bT key) (if m<n then kas_bin (n - max m 1) p (max m 1) else .ret p)) n
    rw[if_pos hm]
    have c2:1<=m:=c2
    have em:max m 1=m:=by omega
    rw[em]
    obtain⟨b1,b2⟩:=QK (key:=key) (n - m) p m c4 (by omega)
    exact⟨b1.trans c1,by rw[show n=m+(n - m) by omega];rw[show m+(n - m) - m=n - m by omega];exact b2⟩
  . show(bH (bT key) (if m<n then kas_bin (n - max m 1) p (max m 1) else .ret p)).Perm _/\jo key (bH (bT key) (if m<n then kas_bin (n - max m 1) p (max m 1) else .ret p)) n
    rw[if_neg hm]
    have c3:m<=n:=c3
    have:m=n:=by omega
    subst this
    exact⟨c1,c4⟩
 refine⟨Array.perm_iff_toList_perm.mp main.1,?_⟩
 have hsz:(bH (bT key) (kas_sort n)).size=n:=by rw[main.1.size_eq,hz]
 rw[List.pairwise_map,List.pairwise_iff_getElem]
 intro i j hi hj hij
 have hi':i<(bH (bT key) (kas_sort n)).size:=by simpa using hi
 have hj':j<(bH (bT key) (kas_sort n)).size:=by simpa using hj
 have q:=main.2 i j (Nat.le_of_lt hij) (by omega)
 unfold Kp at q
 rw[Array.getD_eq_getD_getElem?,Array.getD_eq_getD_getElem?,Array.getElem?_eq_getElem hi',Array.getElem?_eq_getElem hj'] at q
 simpa using q
end
end m8
namespace L2
open PySem PySem.Spec PyProof.Rows
noncomputable def yC (c':Addr) (qual:Str):Heap->Prop:=λh=>h.CodeRec (.ref c') qual
noncomputable def qU (P:Addr) (pos:Pos) (qual:Str) (c':Addr) (H:Hp):Prop:=H P=some (.dI #[rawInt pos.line,rawInt pos.col,.ref c'])/\H c'=some (.ext (yC c' qual))
noncomputable def cg (P:Addr) (pos:Pos) (qual:Str) (H:Hp):Prop:=H P=some (.dI #[])\/∃c',qU P pos qual c' H
theorem qU.mono {P:Addr}{pos:Pos}{qual:Str}{c':Addr}{H H':Hp}(h:qU P pos qual c' H)(k:∀b o,(b=P\/b=c')->H b=some o->H' b=some o):qU P pos qual c' H':=⟨k _ _ (.inl rfl) h.1,k _ _ (.inr rfl) h.2⟩
noncomputable def BM (mg:Str->Option Value) (base:Heap):Prop:=
 ∃bm o,mg "__builtins__"=some (.ref bm)/\bm≠builtinsNs/\bm≠mainGlobals/\base.get? bm=some o/\o.cls=.type "module"/\o.dict=some builtinsNs/\o.data=.plain
section
variable {X:Cx}{pins:List (Addr × Obj)}{σ:St}{H:Hp}{s:Shared}
theorem Inv.QL (I:Inv X pins σ H s){P b:Addr}{o:HO}{u:Obj}(e:H P=some o)(hb:X.base.get? b=some u):b≠P:=λz=>by
 have:=(I.bs b u hb).2
 rw[z,e] at this;cases this
theorem Inv.QM (I:Inv X pins σ H s)(B:BM X.mg X.base){P:Addr}{o:HO}(e:H P=some o):s.heap.BuiltinsAt X.mg P:=by
 obtain⟨bm,ob,b1,b2,b3,b4,b5⟩:=B
 exact⟨bm,ob,b1,b2,b3,I.QL e b4,(I.bs bm ob b4).1,b5⟩
theorem Inv.adopt {b:Addr}{o:HO}{h':Heap}{t':Nat}(I:Inv X pins σ H s)(f:fX X pins H b)(k:∀c u,c≠b->s.heap.get? c=some u->h'.get? c=some u)(new:cM X.prog X.w (upd H b o) h' b o):
 Inv X pins σ (upd H b o) { s with heap:=h',toks:=t' }:=by
 obtain⟨f0,f1,f2,f3,f4,f5⟩:=f
 have nb:∀c u,H c=some u->c≠b:=λc u e=>aR e f0
 refine I.step (g':=s.gens) (d':=s.drawn) (ch:=[b]) (λc hc=>?_) (λc u _ _ hc e _=>k c u (λz=>hc (by simp[z])) e) (λc u _ _ hc e _=>⟨u.slots,k c u (λz=>hc (by simp[z])) e⟩) (λc u hc e n=>?_)
  (λc u hc e=>⟨u,k c u (λz=>hc (by simp[z])) e⟩) (λc xs e=>?_) (λc ob u e=>?_) (λc ps e=>⟨#[],?_⟩) (λm hm=>?_) (λc u e=>?_) I.bare
 . have e:c=b:=by simpa using hc
   subst e
   exact⟨f3,f1,f4,f5⟩
 . rw[au (λz=>hc (by simp[z]))];exact n
 . rw[au (nb _ _ e)];exact e
 . rw[au (nb _ _ e)];exact e
 . rw[au (nb _ _ e),e];simp
 . obtain⟨ob,es,ep,ho,r⟩:=hm
   exact⟨ob,es,ep,k _ ob (Ne.symm f1) ho,r⟩
 . by_cases hc:c=b
   . subst hc
     rw[aD] at e;cases e
     exact new
   . rw[au hc] at e
     refine(I.hok c u e).stay (λd v hd q=>k d v ?_ q) (λd q=>by rw[au (nb _ _ q)];exact q) λd xs q=>by rw[au (nb _ _ q)];exact q
     rcases hd with z|z
     . rw[z];exact hc
     . exact nb _ _ z
theorem Inv.own {b:Addr}{h':Heap}{t':Nat}(I:Inv X pins σ H s)(f:fX X pins H b)(hs:Heap.SameBut b s.heap h'):Inv X pins σ H { s with heap:=h',toks:=t' }:=
 I.turned (t':=t') (λc u hc e=>(hs.2 c hc).trans e) f.1 f.2.1 f.2.2.2.1 f.2.2.2.2.1 f.2.2.2.2.2
theorem ace {name qual:Str}{params:Arguments}{body:Expr}{scope:Scope}{pos:Pos}{firstLine:Nat}{cl:List (Str × Addr)}{c P:Addr}{Q:Value->Shared->Prop}{E:Value->Shared->Prop}(I:Inv X pins σ H s)(hcode:X.env.code=.ref c)(C:W.CodeHd X.base c P)
 (B:BM X.mg X.base) (T:cg P pos qual H) (hcl:closureFor scope X.env=pure cl)
 (h:∀(f c':Addr) (pm ctv:Value) (H':Hp) (s':Shared),Inv X (pins++[(f,W.kla_obj name qual params body scope cl pm c' ctv)]) σ H' s'->qU P pos qual c' H'->(∀b o,b≠P->H b=some o->H' b=some o)->Q (.ref f) s'):
 wpAny (model X.prog X.w) X.A (makeFunction name qual params (.expr body) scope X.env [] [] [] pos firstLine) Q E s:=by
 have hg:s.heap.Ns mainGlobals X.mg:=I.mod.glob.keeps I.bk
 have C':=C.keeps I.bk
 have lay:∀{H':Hp} {s':Shared} {f:Addr} {o:Obj},Inv X pins σ H' s'->s'.heap.get? f=some o->H' f=none->s.heap.objs.size<=f->(∀v,o.data≠ .cell v)->Inv X (pins++[(f,o)]) σ H' s':=λ{H' s' f o} J e n hz d=>
  J.qC λp hp=>(List.mem_append.mp hp).elim (λz=>J.pin p (List.mem_append_right _ z)) λz=>by
    have:p=(f,o):=by simpa using z
    subst this
    exact⟨e,n,Nat.ne_of_gt (Nat.lt_of_lt_of_le I.lt hz),I.rP hz,d⟩
 rcases T with e|⟨c',e1,e2⟩
 . have hP:s.heap.get? P=some (W.tabObj #[]):=I.hok P _ e
   have hPs:P<s.heap.objs.size:=Heap.lt_size hP
   have hgP:mainGlobals≠P:=by
    obtain⟨o,es,ep,eo,_⟩:=I.mod.glob
    exact I.QL e eo
   refine W.kla_makeFunction (mg:=X.mg) hcl I.ok.glob hg hcode C' hP trivial rfl hgP (I.QM B e) λc' ctv h' tk hx hge hlt hrec htb=>?_
   have QS:c'≠P:=Nat.ne_of_gt (Nat.lt_of_lt_of_le hPs hge)
   have hcn:H c'=none:=I.hok.fresh hge
   have nP:∀b u,H b=some u->u≠ .dI #[]->b≠P:=λb u q d z=>by
    rw[z,e] at q
    exact d (Option.some.inj q).symm
   have nC:∀b u,H b=some u->b≠c':=λb u q=>aR q hcn
   have kk:∀(ob:Obj) b u,b≠P->s.heap.get? b=some u->(h'.push ob).get? b=some u:=λob b u hb q=>Heap.get?_push_of_some _ (hx b u hb q)
   have I1:Inv X pins σ (upd (upd H P (.dI (#[]++#[rawInt pos.line,rawInt pos.col,.ref c']))) c' (.ext (yC c' qual))) { s with heap:=h'.push (W.kla_obj name qual params body scope cl ((X.mg "__name__").getD .none) c' ctv),toks:=tk }:=by
    refine I.step (g':=s.gens) (d':=s.drawn) (ch:=[]) (λ_ z=>nomatch z) (λb o _ _ _ q n=>kk _ b o (λz=>by rw[z,e] at n;cases n) q) (λb o _ _ _ q n=>⟨o.slots,kk _ b o (λz=>by rw[z,e] at n;cases n) q⟩)
     (λb o _ q n=>?_) (λb o _ q=>?_) (λb xs q=>?_) (λb o u q=>?_) (λb ps q=>?_) (λm hm=>?_) (λb o q=>?_) I.bare
    . have b1:b≠P:=λz=>by rw[z,e] at n;cases n
      have b2:b≠c':=Nat.ne_of_lt (Nat.lt_of_lt_of_le (Heap.lt_size q) hge)
      rw[au b2,au b1];exact n
    . by_cases hb:b=P
      . subst hb
        exact⟨_,Heap.get?_push_of_some _ htb⟩
      . exact⟨o,kk _ b o hb q⟩
    . rw[au (nC _ _ q),au (nP _ _ q (by intro z;cases z))];exact q
    . rw[au (nC _ _ q),au (nP _ _ q (by intro z;cases z))];exact q
    . by_cases hb:b=P
      . subst hb
        rw[e] at q;cases q
        exact⟨_,by rw[au (Ne.symm QS),aD]⟩
      . exact⟨#[],by rw[au (nC _ _ q),au hb,q];simp⟩
    . obtain⟨o,es,ep,ho,r⟩:=hm
      exact⟨o,es,ep,kk _ _ o (λz=>by have:=I.free;rw[z,e] at this;cases this) ho,r⟩
    . by_cases hb:b=c'
      . subst hb
        rw[aD] at q;cases q
        obtain⟨c₂,oc,vs,t,z1,z2,z3,z4⟩:=hrec
        cases z1
        refine⟨⟨_,oc,vs,t,rfl,Heap.get?_push_of_some _ z2,z3,z4⟩,⟨oc,Heap.get?_push_of_some _ z2⟩,λh1 h2 y hy=>?_⟩
        obtain⟨c₃,oc',vs',t',y1,y2,y3,y4⟩:=y
        cases y1
        exact⟨_,oc',vs',t',rfl,hy _ y2,y3,y4⟩
      . rw[au hb] at q
        by_cases hp:b=P
        . subst hp
          rw[aD] at q;cases q
          show(h'.push _).get? b=some { cls:=.none,data:=.fields _ }
          exact Heap.get?_push_of_some _ htb
        . rw[au hp] at q
          refine(I.hok b o q).stay (λd v hd y=>kk _ d v ?_ y) (λd y=>by rw[au (nC _ _ y),au (nP _ _ y (by intro z;cases z))];exact y) λd xs y=>by rw[au (nC _ _ y),au (nP _ _ y (by intro z;cases z))];exact y
          rcases hd with z|z
          . rw[z];exact hp
          . exact nP _ _ z (by intro z;cases z)
   have fz:s.heap.objs.size<=h'.objs.size:=Nat.le_of_lt (Nat.lt_of_le_of_lt hge hlt)
   have fn:upd (upd H P (.dI (#[]++#[rawInt pos.line,rawInt pos.col,.ref c']))) c' (.ext (yC c' qual)) h'.objs.size=none:=by
    rw[au (Nat.ne_of_gt hlt),au (Nat.ne_of_gt (Nat.lt_of_lt_of_le hPs fz))]
    exact I.hok.fresh fz
   refine h h'.objs.size c' ((X.mg "__name__").getD .none) ctv _ _ (lay I1 (Heap.get?_push_size _ rfl) fn fz (by intro v z;cases z)) ⟨by rw[au (Ne.symm QS),aD];rfl,aD⟩ λb o hb q=>?_
   rw[au (nC _ _ q),au hb];exact q
 . have hP:s.heap.get? P=some (W.tabObj #[rawInt pos.line,rawInt pos.col,.ref c']):=I.hok P _ e1
   refine W.kla_makeFunctionHit (mg:=X.mg) (cv:=.ref c') hcl I.ok.glob hg hcode C' hP (by simp[TriplesOk,rawInt]) (by simp[codeAmong,rawInt]) (I.QM B e1) λctv h' tk hk hsz=>?_
   exact h h'.objs.size c' ((X.mg "__name__").getD .none) ctv H _ (lay (I.kept λb u q=>Heap.get?_push_of_some _ (hk b u q)) (Heap.get?_push_size _ rfl) (I.hok.fresh hsz) hsz (by intro v z;cases z)) ⟨e1,e2⟩ λb o _ q=>q
structure su (X:Cx) (x:Str) (N':List Str) (scope:Scope):Prop where
 kind:scope.kind=.function
 co:scope.isCoroutine=false
 gen:scope.isGenerator=false
 cell:∀y∈scope.names,y.2≠ .cell
 loc:scope.names.lookup x=some .local
 free:∀y∈scope.names,y.2=.free->X.env.kindOf y.1=some .cell\/X.env.kindOf y.1=some .free
 len:N'.length=X.N.length
 outer:∀(i:Nat) (y:Str),N'[i]? =some y->scope.names.lookup y=none\/(X.N[i]? =some y/\scope.names.lookup y≠some .local)
noncomputable def qW (scope:Scope):List Str->List Str->Bool
 |[],[]=>true
 |y::r,z::q=>(decide (scope.names.lookup y=none) || (decide (z=y) && decide (scope.names.lookup y≠some .local))) && qW scope r q
 |_,_=>false
theorem QT {scope:Scope}:∀{N' N:List Str},qW scope N' N=true->N'.length=N.length
 |[],[],_=>rfl
 |y::r,z::q,h=>by
  simp only[qW,Bool.and_eq_true] at h
  rw[List.length_cons,List.length_cons,QT h.2]
theorem QV {scope:Scope}:∀{N' N:List Str},qW scope N' N=true->∀(i:Nat) (y:Str),N'[i]? =some y->scope.names.lookup y=none\/(N[i]? =some y/\scope.names.lookup y≠some .local)
 |[],[],_,i,y,e=>by simp at e
 |w::r,z::q,h,0,y,e=>by
  simp only[qW,Bool.and_eq_true,Bool.or_eq_true,decide_eq_true_eq] at h
  have e:some w=some y:=e
  cases e
  rcases h.1 with h1|⟨h1,h2⟩
  . exact .inl h1
  . subst h1;exact .inr ⟨rfl,h2⟩
 |w::r,z::q,h,i+1,y,e=>by
  simp only[qW,Bool.and_eq_true] at h
  have:=QV h.2 i y (by simpa using e)
  simpa using this
noncomputable def QW (x:Str) (N' N:List Str) (scope sc:Scope):Bool:=
 scope.names.all (λy=>decide (y.2≠ .cell)) && decide (scope.names.lookup x=some .local) && scope.names.all (λy=>decide (y.2=.free->sc.names.lookup y.1=some .cell\/sc.names.lookup y.1=some .free)) && qW scope N' N
theorem su.of {x:Str}{N' N:List Str}{scope sc:Scope}(hsc:X.env.scope=sc)(hN:X.N=N)(k:scope.kind=.function)(c1:scope.isCoroutine=false)(c2:scope.isGenerator=false)(c:QW x N' N scope sc=true):su X x N' scope:=by
 unfold QW at c
 simp only[Bool.and_eq_true,List.all_eq_true,decide_eq_true_eq] at c
 obtain⟨⟨⟨a1,a2⟩,a3⟩,a4⟩:=c
 exact⟨k,c1,c2,a1,a2,λy hy hf=>by rw[show X.env.kindOf y.1=X.env.scope.names.lookup y.1 from rfl,hsc];exact a3 y hy hf,by rw[hN];exact QT a4,by rw[hN];exact QV a4⟩
noncomputable abbrev yD (qual:Str) (scope:Scope) (cl:List (Str × Addr)) (f c':Addr) (s:Shared):Env:=W.envX qual scope s.heap.objs.size f (.ref c') cl
noncomputable def yE (X:Cx) (x:Str) (N':List Str) (scope:Scope) (cl:List (Str × Addr)) (qual:Str) (f c':Addr) (s:Shared) (H:Hp):Cx:=
 { X with A:=X.A.in1.in1.deeper (yD qual scope cl f c' s),N:=x::N',s₀:=s,H₀:=H,env:=yD qual scope cl f c' s,outer:=X.stack,stack:=yD qual scope cl f c' s::X.stack,ex:=[],fn:=λ_=>false,pn:=[],calm:=true,xe:=λ_ _=>False }
theorem Inv.lam {x:Str}{N':List Str}{scope:Scope}{cl:List (Str × Addr)}{qual:Str}{f c':Addr}{v:V}{u:Value}{h₁:Heap}{t':Nat}(I:Inv X pins σ H s)(S:su X x N' scope)(hd:X.A.handled=none)
 (hsub:∀y c,cl.lookup y=some c->X.env.cells.lookup y=some c) (hget:∀y,(y,NameKind.free)∈scope.names->cl.lookup y=X.env.cells.lookup y) (r:RelV v u)
 (hn:h₁.Ns s.heap.objs.size (λy=>([(x,u)]:List (Str × Value)).reverse.lookup y)) (old:∀b o,s.heap.get? b=some o->h₁.get? b=some o):
 Inv (yE X x N' scope cl qual f c' s H) [] (some v::σ) H { s with heap:=h₁,toks:=t' }:=by
 have ok:=I.ok
 have hfree:∀y,(scope.names.lookup y=some .cell\/scope.names.lookup y=some .free)->(y,NameKind.free)∈scope.names:=λy hy=>by
  rcases hy with hy|hy
  . exact absurd rfl (S.cell _ (PySem.mem_of_lookup hy))
  . exact PySem.mem_of_lookup hy
 refine⟨⟨ok.mod,S.kind,rfl,rfl,Nat.le_refl _,λy z c e1 e2=>ok.inj y z c (hsub y c e1) (hsub z c e2),λy hy=>?_,λy c hy _=>(nomatch hy),λ_=>hd,Around.frames_deeper (show X.A.in1.in1.frames=some X.stack from ok.frames),.inr ⟨rfl,rfl⟩,λb hb=>absurd (show b∈([]:List Addr) from hb) (by simp),I.bs,Nat.le_trans ok.jW I.sz,
  λb o _ hb=>absurd (show b∈([]:List Addr) from hb) (by simp),λb hb=>absurd (show b∈([]:List Addr) from hb) (by simp),I.stack,I.uJ⟩,
  rfl,I.bare,Un.kept old,⟨_,hn,λi y v' e1 e2 e3=>?_⟩,λy c e=>?_,I.hok.fresh (Nat.le_refl _),λy c e=>I.iC y c (hsub y c e),λp hp=>absurd (show p∈([]:List (Addr × Obj)) from hp) (by simp),I.hok.kept old,?_⟩
 . have hm:=hfree y hy
   obtain⟨c,e⟩:=ok.has y (S.free _ hm rfl)
   exact⟨c,by rw[show(yE X x N' scope cl qual f c' s H).env.cells=cl from rfl,hget y hm];exact e⟩
 . cases i with
   |zero=>
    have e1:some x=some y:=e1
    cases e1
    have e2:some (some v)=some (some v'):=e2
    cases e2
    exact⟨u,r,.inl ⟨S.loc,by simp⟩⟩
   |succ i=>
    have e1:N'[i]? =some y:=by
     have e1:(x::N')[i+1]? =some y:=e1
     simpa using e1
    have e2:σ[i]? =some (some v'):=by simpa using e2
    have ho:X.N[i]? =some y/\scope.names.lookup y≠some .local:=by
     have e3:scope.names.lookup y=some .local\/scope.names.lookup y=some .cell\/scope.names.lookup y=some .free:=e3
     rcases S.outer i y e1 with q|q
     . rw[q] at e3
       rcases e3 with z|z|z <;> cases z
     . exact q
    have hk2:scope.names.lookup y=some .cell\/scope.names.lookup y=some .free:=by
     rcases e3 with q|q
     . exact absurd q ho.2
     . exact q
    have hm:=hfree y hk2
    have vf:=S.free _ hm rfl
    obtain⟨mX,hnX,Cy⟩:=I.loc
    obtain⟨u',r',lk⟩:=Cy i y v' ho.1 e2 (.inr vf)
    refine⟨u',r',.inr ⟨hk2,?_⟩⟩
    rcases lk with⟨q,_⟩|⟨_,c,ec,hc⟩
    . rcases vf with z|z
      . rw[z] at q;cases q
      . rw[z] at q;cases q
    . obtain⟨o,ho,hdd⟩:=hc
      exact⟨c,(hget y hm).trans ec,o,old _ _ ho,hdd⟩
 . obtain⟨w',o,ho,hdd⟩:=I.cell y c (hsub y c e)
   exact⟨w',o,old _ _ ho,hdd⟩
 . show _=(x::N').length
   rw[List.length_cons,List.length_cons,I.len,S.len]
theorem acf {x:Str}{N':List Str}{name qual:Str}{params:Arguments}{body:Expr}{scope:Scope}{cl:List (Str × Addr)}{f c':Addr}{pm ctv:Value}{v:V}{u:Value}{te:TE}{Q:VK}{E:Value->Shared->Prop}(I:Inv X pins σ H s)(S:su X x N' scope)(hd:X.A.handled=none)(acg:X.A.depth<recursionLimit)
 (hsub:∀y c,cl.lookup y=some c->X.env.cells.lookup y=some c) (hget:∀y,(y,NameKind.free)∈scope.names->cl.lookup y=X.env.cells.lookup y) (hf:(f,W.kla_obj name qual params body scope cl pm c' ctv)∈pins) (hc:H c'=some (.ext (yC c' qual)))
 (hb:∀u:Value,bindArgs (W.kla_fn name qual params body scope cl pm (.ref c') ctv) ⟨[u],[]⟩=pure [(x,u)]) (r:RelV v u) (he:∀(s:Shared) (H:Hp),PE (yE X x N' scope cl qual f c' s H) body te) (h:te (some v::σ) H Q):
 wpAny (model X.prog X.w) X.A.in1.in1 (call (.ref f) [u]) (EP X pins σ Q) E s:=by
 obtain⟨p1,p2,p3,p4,p5⟩:=I.pin _ (List.mem_append_right _ hf)
 refine wpAny_call (W.kla_callFunE acg p1 rfl S.co S.gen rfl (I.hok c' _ hc).1 ?_)
 rw[hb]
 refine wpAny_pure (wpAny_newFunctionEnv S.cell (λy hy=>?_) (λh₁ hns hsb=>?_) S.kind)
 . have e:y=(x,u):=by simpa using hy
   subst e
   exact S.loc
 have old:∀b o,s.heap.get? b=some o->h₁.get? b=some o:=λb o e=>hsb.extBut b o (Nat.ne_of_lt (Heap.lt_size e)) (Heap.get?_push_of_some _ e)
 refine⟨I.nolimit.keeps old,?_⟩
 show codeAny _ _ (.expr body (yD qual scope cl f c' s)) _ _
 have J:=I.lam (t':=s.toks+([(x,u)]:List (Str × Value)).length) (qual:=qual) (f:=f) (c':=c') S hd hsub hget r hns old
 refine W.kla_codeExpr (wpAny_mono (he s H [] _ _ H Q J h) (λu' s' hq=>?_) λe s' hF=>hF.elim)
 obtain⟨v',H',J',rv,q⟩:=hq
 exact I.after ⟨v',H',J'.os,J'.bare,J'.base,J'.hok,rv,q⟩
end
section
variable {X:Cx}{pins:List (Addr × Obj)}{σ:St}{H:Hp}{s:Shared}
noncomputable def Asks (prog:Program) (w:World) (A:Around) (s:Shared) (us:List Value) {O:KeyOrd}(key:Nat->O.α):Prop:=
 2<=us.length->wpAny (model prog w) A (keyKind' us.toArray) (λκ s'=>s'=s/\∀(i j:Nat) (C:Bool->Shared->Prop),i<us.length->j<us.length->C (O.blt (key i) (key j)) s->W.kas_ask prog w A κ us i j C s) (λ_ _=>False) s
theorem QX {xs:List V}{vs:List Value}(r:Vals xs vs):∀p:List Nat,Vals (p.map λi=>xs.getD i .non) (p.map λi=>vs.getD i Value.none)
 |[]=>.nil
 |i::p=>by
  refine .cons ?_ (QX r p)
  show RelV (xs.getD i .non) (vs.getD i Value.none)
  rw[List.getD_eq_getElem?_getD,List.getD_eq_getElem?_getD]
  cases e:xs[i]? with
  |none=>
   rw[r.none_of e]
   exact rfl
  |some x=>
   obtain⟨u,hu,ru⟩:=r.get e
   rw[hu]
   exact ru
theorem QZ {α:Type}(a0:α)(l:List α):((List.range l.length).map λi=>l.getD i a0)=l:=by
 apply List.ext_getElem
 . simp
 . intro i h1 h2
   simp[h2]
theorem ach {us vs:List Value}(hl:us.length=vs.length):((List.toArray us).zip (List.toArray vs)).map (·.2)=List.toArray vs:=by
 apply Array.toList_inj.mp
 rw[Array.toList_map,ksk_zip]
 show List.map Prod.snd (us.zip vs)=vs
 exact List.map_snd_zip (by omega)
theorem aci {α:Type}{R:α->α->Prop}(key:Nat->α){n:Nat}(h:n<2):((List.range n).map key).Pairwise R:=by
 have:n=0\/n=1:=by omega
 rcases this with rfl|rfl
 . exact List.Pairwise.nil
 . exact List.pairwise_singleton _ _
noncomputable abbrev lo (xs:List Value) (n:Nat):Obj:=seqObj "list" (List.toArray xs) n
theorem Q0 {E:Value->Shared->Prop}{kS D:Addr}{us:List Value}{e e1:Nat}{st:SortSt}{out:List Value}{outV:List V}{P:PySem.Fin->Shared->Prop}{A:Around}(I:Inv X (pins++[(kS,lo us e),(D,lo [] e1)]) σ H s)(fK:fX X pins H kS)(fD:fX X pins H D)(hne:kS≠D)(hus:us.length<64)(ho:out.length<64)
 (hout:(arrOf st).map (·.2)=List.toArray out) (hf:failedOf st=none) (rv:Vals outV out)
 (h:∀s',Inv X pins σ (upd H D (.lst outV)) s'->P (.done (.ret .none)) s'):wpAny (model X.prog X.w) A (ksk_tail D false e1 (.ref kS) st) P E s:=by
 have nk:=(I.pin (kS,lo us e) (List.mem_append_right _ (List.mem_append_right _ (List.mem_cons_self)))).1
 have nD:=(I.pin (D,lo [] e1) (List.mem_append_right _ (List.mem_append_right _ (List.mem_cons_of_mem _ List.mem_cons_self)))).1
 have s1:=Heap.SameBut.update s.heap kS (Obj.mapSeq λ_=>(#[]:Array Value))
 have CZ:(s.heap.update kS (Obj.mapSeq λ_=>(#[]:Array Value))).get? D=some (lo [] e1):=(s1.2 D hne.symm).trans nD
 have s2:=Heap.SameBut.update (s.heap.update kS (Obj.mapSeq λ_=>(#[]:Array Value))) D (Obj.mapSeq λ_=>List.toArray out)
 obtain⟨c2,hc2⟩:∃c2,((s.heap.update kS (Obj.mapSeq λ_=>(#[]:Array Value))).update D (Obj.mapSeq λ_=>List.toArray out)).get? D=some (lo out c2):=⟨_,get?_update_seq CZ λ_=>List.toArray out⟩
 have I1:Inv X pins σ H { s with heap:=s.heap.update kS (Obj.mapSeq λ_=>(#[]:Array Value)) }:=I.oJ.own (t':=s.toks) fK s1
 have I2:Inv X pins σ (upd H D (.lst outV)) { s with heap:=(s.heap.update kS (Obj.mapSeq λ_=>(#[]:Array Value))).update D (Obj.mapSeq λ_=>List.toArray out) }:=
  I1.adopt (t':=s.toks) fD (λc u hc q=>(s2.2 c hc).trans q) ⟨by rw[rv.length];exact Nat.le_of_lt (dX (by omega)),out,c2,rv,hc2⟩
 unfold ksk_tail
 try dsimp only
 rw[hout]
 refine wpAny_bind (listUpdate_at nk rfl ?_ (by rw[List.size_toArray,sizeLine_eq];omega) (Nat.zero_le _))
 refine wpAny_bind (wpAny_letGo ?_)
 refine wpAny_bind (seqEpoch_at CZ rfl ?_)
 refine wpAny_bind (listUpdate_at CZ rfl ?_ (Nat.zero_le _) (by show(List.toArray out).size<=_;rw[List.size_toArray,sizeLine_eq];omega))
 rw[hf]
 simp only[bne_self_eq_false,Bool.false_eq_true,if_false]
 exact wpAny_pure (h _ I2)
theorem acj {E:Value->Shared->Prop}{kS D:Addr}{us vs:List Value}{xs:List V}{e e1:Nat}{P:PySem.Fin->Shared->Prop}{A:Around}{O:KeyOrd}{key:Nat->O.α}(I:Inv X (pins++[(kS,lo us e),(D,lo [] e1)]) σ H s)(fK:fX X pins H kS)(fD:fX X pins H D)(hne:kS≠D)
 (hl:us.length=vs.length) (h64:vs.length<64) (rv:Vals xs vs) (ask:Asks X.prog X.w A s us key)
 (h:∀(p:List Nat),p.Perm (List.range vs.length)->(p.map key).Pairwise O.kle->∀s',Inv X pins σ (upd H D (.lst (p.map λi=>xs.getD i .non))) s'->P (.done (.ret .none)) s'):
 wpAny (model X.prog X.w) A (ksk_end D false (List.toArray vs) e1 (.ref kS) (List.toArray us)) P E s:=by
 unfold ksk_end
 try dsimp only
 simp only[Bool.false_eq_true,if_false]
 by_cases h2:vs.toArray.size<2
 . rw[if_pos h2,if_pos h2]
   have h2':vs.length<2:=by simpa using h2
   refine wpAny_bind (wpAny_pure ?_)
   rw[StateT.run_pure]
   refine wpAny_bind (wpAny_pure ?_)
   try dsimp only
   have hlen:xs.length=vs.length:=rv.length
   have ez:((List.range vs.length).map λi=>xs.getD i .non)=xs:=by
    rw[<-hlen];exact QZ _ xs
   refine Q0 (out:=vs) (outV:=xs) (st:=SortSt.mk' general' ((List.toArray us).zip (List.toArray vs)) #[] 7 none) I fK fD hne (by omega) h64 (ach hl) rfl rv λs' J=>?_
   have q:=h (List.range vs.length) (List.Perm.refl _) (aci key h2') s'
   rw[ez] at q
   exact q J
 . rw[if_neg h2,if_neg h2]
   have h2':2<=vs.length:=by simpa using h2
   refine wpAny_bind (wpAny_mono (ask (by omega)) (λκ s' hk=>?_) λ_ _ hF=>hF.elim)
   obtain⟨rfl,hk⟩:=hk
   obtain⟨k1,k2⟩:=m8.acd (key:=key) (n:=vs.length) (by omega)
   refine wpAny_bind (wpAny_mono (W.kat_run (κ:=κ) (ks:=us) (vs:=vs) (Q:=λst' s''=>s''=s'/\arrOf st'=(m8.bH (m8.bT key) (W.kas_sort vs.length)).map (W.kas_item ((List.toArray us).zip vs.toArray))/\failedOf st'=none)
    (G:=λp s''=>s''=s'/\p=m8.bH (m8.bT key) (W.kas_sort vs.length)) hl h2' h64 (λp st' s'' _ a2 a3 a4=>⟨a4.1,by rw[a2,a4.2],a3⟩)
    (m8.QC (f:=m8.bT key) (λi j C hi hj q=>hk i j C (by omega) (by omega) q) (m8.ab8 (by omega)) ⟨rfl,rfl⟩)) ?_ λ_ _ x=>x)
   rintro⟨⟨⟩,st'⟩ s'' ⟨rfl,har,hfl⟩
   try dsimp only
   refine Q0 I fK fD hne (by omega) (by rw[List.length_map,k1.length_eq,List.length_range];exact h64) (W.kat_snds hl har) hfl (QX rv _) λs' J=>h _ k1 k2 s' J
theorem acn {E:Value->Shared->Prop}{f a:Addr}{xs:List V}{Q:VK}{W:List V->Hp->Prop}(I:Inv X pins σ H s)(hq:aq X.K H a xs)(h64:xs.length<64)(w0:W [] H)
 (turn:∀(pl:List (Addr × Obj)) (s':Shared) (H':Hp) (ks:List V) (y:V) (u:Value),Inv X (pins++pl) σ H' s'->W ks H'->xs[ks.length]? =some y->RelV y u->
   wpAny (model X.prog X.w) X.A.in1.in1 (call (.ref f) [u]) (EP X (pins++pl) σ λk jL=>W (ks++[k]) jL) (λ_ _=>False) s')
 (fin:∀(pl:List (Addr × Obj)) (s':Shared) (H':Hp) (ks:List V) (us:List Value),Inv X (pins++pl) σ H' s'->W ks H'->ks.length=xs.length->Vals ks us->∃(O:KeyOrd) (key:Nat->O.α),Asks X.prog X.w X.A.in1.in1 s' us key/\
   ∀p:List Nat,p.Perm (List.range xs.length)->(p.map key).Pairwise O.kle->∀D,H' D=none->Q (.ref D) (upd H' D (.lst (p.map λi=>xs.getD i .non)))):
 wpAny (model X.prog X.w) X.A (call (.builtin "sorted") [.ref a] [(Str.ofString "key",.ref f)]) (EP X pins σ Q) E s:=by
 obtain⟨vs,rv,pl,hz⟩:=I.list hq
 have hl:xs.length=vs.length:=rv.length
 refine call_function_entry_kw kind_sorted plain_sorted entry_sorted (ksk_s1 _ _) ?_
 unfold Builtin.«sorted»
 refine wpAny_bind (m:=checkCount "sorted" 1 1 _) (wpAny_pure ?_)
 refine wpAny_bind (collect_list pl.isList ?_ (by rw[sizeLine_eq];omega))
 refine wpAny_bind (wpAny_newList ?_ (by rw[sizeLine_eq];omega))
 have hsz:((s.heap.push (seqObj "list" #[] 0)).update s.heap.objs.size (Obj.mapSeq (· ++vs.toArray))).objs.size=s.heap.objs.size+1:=by
  rw[Heap.size_update,size_push']
 have hoL:(((s.heap.push (seqObj "list" #[] 0)).update s.heap.objs.size (Obj.mapSeq (· ++vs.toArray))).push (seqObj "list" vs.toArray 0)).get? (s.heap.objs.size+1)=some (seqObj "list" vs.toArray 0):=by
  rw[<-hsz];exact Heap.get?_push_size _ rfl
 have keep:∀b o,s.heap.get? b=some o->(((s.heap.push (seqObj "list" #[] 0)).update s.heap.objs.size (Obj.mapSeq (· ++vs.toArray))).push (seqObj "list" vs.toArray 0)).get? b=some o:=λb o q=>by
  have hlt:b<s.heap.objs.size:=Heap.lt_size q
  rw[Heap.get?_push_ne _ _ _ (by rw[hsz];exact Nat.ne_of_lt (Nat.lt_succ_of_lt hlt)),Heap.get?_update_ne _ _ _ _ (Nat.ne_of_lt hlt),Heap.get?_push_ne _ _ _ (Nat.ne_of_lt hlt)]
  exact q
 show wpAny _ _ _ _ _ { s with heap:=((s.heap.push (seqObj "list" #[] 0)).update s.heap.objs.size (Obj.mapSeq (· ++vs.toArray))).push (seqObj "list" vs.toArray 0) }
 rw[hsz]
 generalize hG:((s.heap.push (seqObj "list" #[] 0)).update s.heap.objs.size (Obj.mapSeq (· ++vs.toArray))).push (seqObj "list" vs.toArray 0)=G at hoL keep ⊢
 have hGs:G.objs.size=s.heap.objs.size+2:=by rw[<-hG,size_push',hsz]
 have I1:Inv X pins σ H { s with heap:=G }:=I.kept (t':=s.toks) keep
 refine wpAny_bind (wpAny_holding (wpAny_call_entry_kw slot_list_sort ⟨_,hoL,rfl⟩ entry_list_sort ?body (ksk_l1 _ _)))
 case body=>
  show wpAny (model X.prog X.w) X.A.in1.in1 (Builtin.«list.sort» ⟨[.ref (s.heap.objs.size+1)],[(Str.ofString "key",.ref f)]⟩) _ _ _
  rw[ksk_t1]
  unfold ksk_tree
  generalize hD:s.heap.objs.size+1=D at hoL ⊢
  have Q5:s.heap.objs.size<=D:=by omega
  have s1:=Heap.SameBut.update G D (Obj.mapSeq λ_=>(#[]:Array Value))
  obtain⟨e1,ho1⟩:∃e1,(G.update D (Obj.mapSeq λ_=>(#[]:Array Value))).get? D=some (lo [] e1):=⟨_,get?_update_seq hoL λ_=>#[]⟩
  refine wpAny_bind (listItems_at hoL rfl ?_)
  refine wpAny_bind (listUpdate_at hoL rfl ?_ (by rw[List.size_toArray,sizeLine_eq];omega) (Nat.zero_le _))
  refine wpAny_bind (seqEpoch_at ho1 rfl ?_)
  refine wpAny_bind (wpAny_newTuple ?_ (by show vs.length<=_;rw[sizeLine_eq];omega))
  refine wpAny_bind (wpAny_newList ?_ (Nat.zero_le _))
  refine wpAny_holding ?_
  show wpAny (model X.prog X.w) X.A.in1.in1 _ _ _ { s with heap:=((G.update D (Obj.mapSeq λ_=>(#[]:Array Value))).push (seqObj "tuple" vs.toArray 0)).push (seqObj "list" #[] 0) }
  generalize hkS:((G.update D (Obj.mapSeq λ_=>(#[]:Array Value))).push (seqObj "tuple" vs.toArray 0)).objs.size=kS
  have ao4:kS=s.heap.objs.size+3:=by rw[<-hkS,size_push',Heap.size_update,hGs]
  have hne:kS≠D:=by omega
  have m_:fX X pins H D:=I.qF Q5 (I.hok.fresh Q5)
  have yF:fX X pins H kS:=I.qF (by omega) (I.hok.fresh (by omega))
  have acp:∀b o,b≠D->G.get? b=some o->(((G.update D (Obj.mapSeq λ_=>(#[]:Array Value))).push (seqObj "tuple" vs.toArray 0)).push (seqObj "list" #[] 0)).get? b=some o:=λb o hb q=>
   Heap.get?_push_of_some _ (Heap.get?_push_of_some _ ((s1.2 b hb).trans q))
  have I2:Inv X pins σ H { s with heap:=((G.update D (Obj.mapSeq λ_=>(#[]:Array Value))).push (seqObj "tuple" vs.toArray 0)).push (seqObj "list" #[] 0) }:=
   Inv.turned (s:={ s with heap:=G }) (t':=s.toks) (it:=D) I1 acp m_.1 m_.2.1 m_.2.2.2.1 m_.2.2.2.2.1 m_.2.2.2.2.2
  have hK:(((G.update D (Obj.mapSeq λ_=>(#[]:Array Value))).push (seqObj "tuple" vs.toArray 0)).push (seqObj "list" #[] 0)).get? kS=some (lo [] 0):=by rw[<-hkS];exact Heap.get?_push_size _ rfl
  have hD2:(((G.update D (Obj.mapSeq λ_=>(#[]:Array Value))).push (seqObj "tuple" vs.toArray 0)).push (seqObj "list" #[] 0)).get? D=some (lo [] e1):=Heap.get?_push_of_some _ (Heap.get?_push_of_some _ ho1)
  generalize ((G.update D (Obj.mapSeq λ_=>(#[]:Array Value))).push (seqObj "tuple" vs.toArray 0)).push (seqObj "list" #[] 0)=G2 at I2 hK hD2 ⊢
  have pinned:∀{H':Hp} {s':Shared} {us:List Value} {e:Nat},Inv X pins σ H' s'->s'.heap.get? kS=some (lo us e)->s'.heap.get? D=some (lo [] e1)->H' kS=none->H' D=none->Inv X (pins++[(kS,lo us e),(D,lo [] e1)]) σ H' s':=λ{H' s' us e} J k1 k2 n1 n2=>
   J.qC λp hp=>(List.mem_append.mp hp).elim (λz=>J.pin p (List.mem_append_right _ z)) λz=>by
     have z:p=(kS,lo us e)\/p=(D,lo [] e1):=by simpa using z
     rcases z with rfl|rfl
     . exact⟨k1,n1,yF.2.1,yF.2.2.1,by intro v z;cases z⟩
     . exact⟨k2,n2,m_.2.1,m_.2.2.1,by intro v z;cases z⟩
  have own:∀{H':Hp} {b:Addr},(b=kS\/b=D)->H' b=none->fX X pins H' b:=λ{H' b} hb n=>by
   rcases hb with rfl|rfl
   . exact⟨n,yF.2⟩
   . exact⟨n,m_.2⟩
  unfold ksk_rest
  refine wpAny_bind (wpAny_rule ?_)
  first
   |rw[List.forIn_toArray]
   |(rw[<-Array.forIn_toList];simp only[List.toList_toArray])
   |rw[<-Array.forIn_toList]
  refine wpAny_bind (ksk_fold (λi s'=>∃ks us e H',Inv X (pins++[(kS,lo us e),(D,lo [] e1)]) σ H' s'/\Vals ks us/\ks.length=i/\i<=vs.length/\W ks H') vs 0 _
   ⟨[],[],0,H,pinned I2 hK hD2 yF.1 m_.1,.nil,rfl,Nat.zero_le _,w0⟩ (λj x s' hx hJ=>?_) λs' hJ=>?_)
  . obtain⟨ks,us,e,H',J,rk,hi,hle,wk⟩:=hJ
    have hi:ks.length=j:=by omega
    have hj:j<vs.length:=(List.getElem?_eq_some_iff.mp hx).1
    have hjx:j<xs.length:=by omega
    obtain⟨u,hu,ru⟩:=rv.get (List.getElem?_eq_getElem hjx)
    rw[hx] at hu;cases hu
    refine wpAny_bind (wpAny_attempt (wpAny_mono (turn _ s' H' ks (xs[j]) x J wk (by rw[hi];exact List.getElem?_eq_getElem hjx) ru) (λk s'' hk=>?_) λ_ _ hF=>hF.elim))
    obtain⟨kv,jL,J',rkv,w'⟩:=hk
    have pk:=J'.pin (kS,lo us e) (List.mem_append_right _ (List.mem_append_right _ (List.mem_cons_self)))
    have pD:=J'.pin (D,lo [] e1) (List.mem_append_right _ (List.mem_append_right _ (List.mem_cons_of_mem _ List.mem_cons_self)))
    have hul:us.length=ks.length:=rk.length.symm
    have s2:=Heap.SameBut.update s''.heap kS (Obj.mapSeq (·.push k))
    have ea:(List.toArray us).push k=List.toArray (us++[k]):=by simp
    obtain⟨c2,hc2⟩:∃c2,(s''.heap.update kS (Obj.mapSeq (·.push k))).get? kS=some (lo (us++[k]) c2):=⟨_,by show _=some (seqObj "list" (List.toArray (us++[k])) _);rw[<-ea];exact get?_update_seq pk.1 (·.push k)⟩
    try dsimp only
    refine wpAny_bind (listUpdate_at pk.1 rfl ?_ (by rw[List.size_toArray,sizeLine_eq];omega) (Nat.le_trans (Nat.le_of_eq (Array.size_push ..)) (by rw[List.size_toArray,sizeLine_eq];omega)))
    have J2:Inv X pins σ jL { s'' with heap:=s''.heap.update kS (Obj.mapSeq (·.push k)) }:=J'.oJ.own (t':=s''.toks) (own (.inl rfl) pk.2.1) s2
    refine wpAny_pure ⟨rfl,ks++[kv],us++[k],c2,jL,pinned J2 hc2 ((s2.2 D hne.symm).trans pD.1) pk.2.1 pD.2.1,rk.append (.cons rkv .nil),by rw[List.length_append,List.length_singleton];omega,by omega,w'⟩
  . obtain⟨ks,us,e,H',J,rk,hi,hle,wk⟩:=hJ
    have hi:ks.length=vs.length:=by omega
    have pk:=J.pin (kS,lo us e) (List.mem_append_right _ (List.mem_append_right _ (List.mem_cons_self)))
    have pD:=J.pin (D,lo [] e1) (List.mem_append_right _ (List.mem_append_right _ (List.mem_cons_of_mem _ List.mem_cons_self)))
    try dsimp only
    refine wpAny_bind (listItems_at pk.1 rfl ?_)
    obtain⟨O,key,ask,q⟩:=fin _ s' H' ks us J wk (by omega) rk
    refine acj J (own (.inl rfl) pk.2.1) (own (.inr rfl) pD.2.1) hne (by rw[<-rk.length];exact hi) (by omega) rv ask λp p1 p2 s'' J'=>?_
    exact⟨_,rfl,wpAny_pure ⟨_,rfl,.ref D,_,J',rfl,q p (by rw[hl];exact p1) p2 D pD.2.1⟩⟩
end
noncomputable def gZ:Key->Key->Bool
 | .inl i,.inl j=>decide (i<j)
 | .inl _,.inr _=>true
 | .inr _,.inl _=>false
 | .inr x,.inr y=>decide (x.cps.toList<y.cps.toList)
theorem acr (a:Key):gZ a a=false:=by
 cases a with
 |inl i=>simp[gZ]
 |inr x=>simpa[gZ] using List.lt_irrefl x.cps.toList
theorem acs {a b c:Key}(h1:gZ a b=true)(h2:gZ b c=true):gZ a c=true:=by
 cases a <;> cases b <;> cases c <;> simp only[gZ,decide_eq_true_eq,Bool.false_eq_true] at * <;> first|omega|exact List.lt_trans h1 h2
theorem acu {x y:Str}(h:x.cps.toList=y.cps.toList):x=y:=by
 cases x;cases y
 simp only[Str.mk.injEq]
 exact Array.toList_inj.mp h
theorem acv (a b:Key):gZ a b=true\/a=b\/gZ b a=true:=by
 cases a with
 |inl i=>
  cases b with
  |inl j=>
   simp only[gZ,decide_eq_true_eq]
   rcases Int.lt_trichotomy i j with h|h|h
   . exact .inl h
   . exact .inr (.inl (by rw[h]))
   . exact .inr (.inr h)
  |inr y=>exact .inl rfl
 |inr x=>
  cases b with
  |inl j=>exact .inr (.inr rfl)
  |inr y=>
   simp only[gZ,decide_eq_true_eq]
   by_cases h1:x.cps.toList<y.cps.toList
   . exact .inl h1
   . by_cases h2:y.cps.toList<x.cps.toList
     . exact .inr (.inr h2)
     . exact .inr (.inl (by rw[acu (List.le_antisymm (List.not_lt.mp h2) (List.not_lt.mp h1))]))
theorem acw {a b:Key}(h:gZ a b=true):a≠b:=λe=>by
 rw[e,acr] at h;cases h
noncomputable def cJ:List Key->List Key->Bool
 |[],[]=>false
 |[],_::_=>true
 |_::_,[]=>false
 |x::xs,y::ys=>if x=y then cJ xs ys else gZ x y
theorem C_:∀a:List Key,cJ a a=false
 |[]=>rfl
 |x::xs=>by
  show(if x=x then cJ xs xs else gZ x x)=false
  rw[if_pos rfl];exact C_ xs
theorem qX (x y:Key)(xs ys:List Key):cJ (x::xs) (y::ys)=if x=y then cJ xs ys else gZ x y:=rfl
theorem vp:∀(a b c:List Key),cJ a b=true->cJ b c=true->cJ a c=true
 |[],[],_,h,_=>by cases h
 |[],_::_,[],_,h=>by cases h
 |[],_::_,_::_,_,_=>rfl
 |_::_,[],_,h,_=>by cases h
 |_::_,_::_,[],_,h=>by cases h
 |x::xs,y::ys,z::zs,h1,h2=>by
  rw[qX] at *
  by_cases e1:x=y
  . subst e1
    rw[if_pos rfl] at h1
    by_cases e2:x=z
    . rw[if_pos e2] at h2 ⊢
      exact vp xs ys zs h1 h2
    . rw[if_neg e2] at h2 ⊢
      exact h2
  . rw[if_neg e1] at h1
    by_cases e2:y=z
    . subst e2
      rw[if_neg e1];exact h1
    . rw[if_neg e2] at h2
      have q:=acs h1 h2
      rw[if_neg (acw q)];exact q
theorem vq:∀a b:List Key,cJ a b=true\/a=b\/cJ b a=true
 |[],[]=>.inr (.inl rfl)
 |[],_::_=>.inl rfl
 |_::_,[]=>.inr (.inr rfl)
 |x::xs,y::ys=>by
  rw[qX,qX]
  by_cases e:x=y
  . subst e
    rw[if_pos rfl,if_pos rfl]
    rcases vq xs ys with h|h|h
    . exact .inl h
    . exact .inr (.inl (by rw[h]))
    . exact .inr (.inr h)
  . rw[if_neg e,if_neg (λz=>e z.symm)]
    rcases acv x y with h|h|h
    . exact .inl h
    . exact absurd h e
    . exact .inr (.inr h)
@[reducible] noncomputable def yG:KeyOrd where
  α:=List Key
  blt:=cJ
  irrefl:=C_
  trans:=vp
  negTrans a b c h:=by
   rcases vq a b with q|q|q
   . exact .inl q
   . exact .inr (by rw[<-q];exact h)
   . exact .inr (vp b a c q h)
  total a b h1 h2:=by
   rcases vq a b with q|q|q
   . rw[h1] at q;cases q
   . exact q
   . rw[h2] at q;cases q
noncomputable def lU (a b:List Key):Prop:=cJ b a=false
noncomputable def jM:Key->Bool
 | .inl _=>true
 | .inr _=>false
section
variable {X:Cx}{pins:List (Addr × Obj)}{σ:St}{H:Hp}{s:Shared}
theorem yH {k:Key}{u:Value}(r:RelV (kV k) u):(∃i t,k=.inl i/\u=.int i t)\/∃x t,k=.inr x/\u=.str x t:=by
 cases k with
 |inl i=>
  obtain⟨t,rfl⟩:=r
  exact .inl ⟨i,t,rfl,rfl⟩
 |inr x=>
  obtain⟨t,rfl⟩:=r
  exact .inr ⟨x,t,rfl,rfl⟩
end
section
variable {X:Cx}
end
noncomputable def vA (K:W.Frag) (a b:Addr):It:=
 ⟨λi H=>∃xs ys x y,aq K H a xs/\aq K H b ys/\xs[i]? =some x/\ys[i]? =some y,
  λi H v H'=>∃p x y,H p=none/\v=.ref p/\(∀xs,aq K H a xs->xs[i]? =some x)/\(∀ys,aq K H b ys->ys[i]? =some y)/\H'=upd H p (.tup [x,y]),
  λi H=>∃xs ys,aq K H a xs/\aq K H b ys/\(xs.length<=i\/ys.length<=i)⟩
theorem acy {P:Program}{w:World}{K:W.Frag}{elts:List Expr}{k:Nat}{tpos:Pos}{z TI TO i1 i2 l1 l2:Addr}(D:ZipApart z TI TO i1 i2 l1 l2):
 Turn P w K (.Tuple elts k tpos) (vA K l1 l2) [z,TI,TO,i1,i2] z (λi h=>∃oa ob,IsZip h z TI TO .none/\IsPair h TI (.ref i1) (.ref i2)/\IsPair h TO oa ob/\h.IsListIter i1 l1 i/\h.IsListIter i2 l2 i) where
 mem:=by simp
 obj:=λi h st b hb=>by
  obtain⟨oa,ob,h1,h2,h3,h4,h5⟩:=st
  have hb:b=z\/b=TI\/b=TO\/b=i1\/b=i2:=by simpa using hb
  rcases hb with rfl|rfl|rfl|rfl|rfl
  . exact⟨_,h1,λv y=>by
     have y:Data.fields _=Data.cell v:=y
     cases y⟩
  . exact⟨_,h2,λv y=>by
     have y:Data.seq _ _=Data.cell v:=y
     cases y⟩
  . exact⟨_,h3,λv y=>by
     have y:Data.seq _ _=Data.cell v:=y
     cases y⟩
  . obtain⟨o,q,c,d⟩:=h4
    exact⟨o,q,λv y=>by rw[d] at y;cases y⟩
  . obtain⟨o,q,c,d⟩:=h5
    exact⟨o,q,λv y=>by rw[d] at y;cases y⟩
 keep:=λi h h' st k=>by
  obtain⟨oa,ob,h1,h2,h3,h4,h5⟩:=st
  exact⟨oa,ob,k z (by simp) _ h1,k TI (by simp) _ h2,k TO (by simp) _ h3,h4.at λo q=>k i1 (by simp) o q,h5.at λo q=>k i2 (by simp) o q⟩
 item:=by
  intro X hP hw hK hc i pins s σ H E I hf st hg
  subst hP hw hK
  obtain⟨oa,ob,h1,h2,h3,h4,h5⟩:=st
  obtain⟨xs,ys,x,y,hq1,hq2,hx,hy⟩:=hg
  obtain⟨Q6,yI,p1,hz1⟩:=I.list hq1
  obtain⟨its2,yJ,p2,hz2⟩:=I.list hq2
  obtain⟨u1,hu1,Dd⟩:=yI.get hx
  obtain⟨u2,hu2,Df⟩:=yJ.get hy
  have fr:H s.heap.objs.size=none:=I.hok.fresh (Nat.le_refl _)
  refine wpAny_pyNext_zip_item D h1 h2 h3 h4 h5 p1.isList p2.isList (x:=u1) (y:=u2) (by simpa using hu1) (by simpa using hu2) λh' q1 q2 q3 q4 q5 q6 q7=>?_
  refine⟨_,rfl,wpAny_letOwnedTupleGo_zip (s:={ s with heap:=h' }) q1 λh'' g1 g2=>?_⟩
  have lts:∀b∈[z,TI,TO,i1,i2],b<s.heap.objs.size:=λb hb=>by
   have hb:b=z\/b=TI\/b=TO\/b=i1\/b=i2:=by simpa using hb
   rcases hb with rfl|rfl|rfl|rfl|rfl
   . exact Heap.lt_size h1
   . exact Heap.lt_size h2
   . exact Heap.lt_size h3
   . obtain⟨o,q,_⟩:=h4;exact Heap.lt_size q
   . obtain⟨o,q,_⟩:=h5;exact Heap.lt_size q
  have ne1:∀b o,s.heap.get? b=some o->b≠s.heap.objs.size:=λb o q=>Nat.ne_of_lt (Heap.lt_size q)
  have kk:∀b o,b≠z->b≠TO->b≠i1->b≠i2->s.heap.get? b=some o->h''.get? b=some o:=λb o n1 n2 n3 n4 q=>g2.extBut b o n1 (q7 b o n1 n2 n3 n4 q)
  have kn:∀b o,b ∉ [z,TO,i1,i2]->s.heap.get? b=some o->h''.get? b=some o:=λb o n q=>kk b o (λy=>n (by simp[y])) (λy=>n (by simp[y])) (λy=>n (by simp[y])) (λy=>n (by simp[y])) q
  have tup:h''.get? s.heap.objs.size=some { cls:=.type "tuple",data:=.seq #[u1,u2] }:=g2.extBut _ _ (Nat.ne_of_gt (Heap.lt_size h1)) q5
  have I1:Inv X pins σ (upd H s.heap.objs.size (.tup [x,y])) { s with heap:=h'' }:=by
   refine I.step (g':=s.gens) (d':=s.drawn) (t':=s.toks) (ch:=[z,TO,i1,i2]) (λb hb=>?_) (λb o _ _ hc q _=>kn b o hc q) (λb o _ _ hc q _=>⟨o.slots,kn b o hc q⟩) (λb o _ q n=>?_) (λb o hc q=>⟨o,kn b o hc q⟩) (λb ws q=>?_) (λb o v q=>?_) (λb ps q=>?_) (λm hm=>?_) (λb o q=>?_) I.bare
   . have hb':b∈[z,TI,TO,i1,i2]:=by
      have hb:b=z\/b=TO\/b=i1\/b=i2:=by simpa using hb
      rcases hb with rfl|rfl|rfl|rfl <;> simp
     obtain⟨f0,f1,f2,f3,f4,f5⟩:=hf b hb'
     exact⟨f3,f1,f4,f5⟩
   . rw[au (ne1 b o q)];exact n
   . rw[au (aR q fr)];exact q
   . rw[au (aR q fr)];exact q
   . exact⟨#[],by rw[au (aR q fr),q];simp⟩
   . obtain⟨o,es,ep,ho,r⟩:=hm
     exact⟨o,es,ep,kk _ o (Ne.symm (hf z (by simp)).2.1) (Ne.symm (hf TO (by simp)).2.1) (Ne.symm (hf i1 (by simp)).2.1) (Ne.symm (hf i2 (by simp)).2.1) ho,r⟩
   . by_cases hb:b=s.heap.objs.size
     . subst hb
       rw[aD] at q;cases q
       exact⟨gO,[u1,u2],.cons Dd (.cons Df .nil),⟨_,tup,rfl,_,rfl⟩⟩
     . rw[au hb] at q
       have nn:∀c v,H c=some v->c ∉ [z,TO,i1,i2]:=λc v e hm=>by
        have hm':c∈[z,TI,TO,i1,i2]:=by
         have hm:c=z\/c=TO\/c=i1\/c=i2:=by simpa using hm
         rcases hm with rfl|rfl|rfl|rfl <;> simp
        have:=(hf c hm').1
        rw[e] at this;cases this
       refine(I.hok b o q).stay (λc v hc' y=>kn c v ?_ y) (λc y=>by rw[au (aR y fr)];exact y) λc ws y=>by rw[au (aR y fr)];exact y
       rcases hc' with y|y
       . rw[y];exact nn b o q
       . exact nn c _ y
  refine⟨.ref s.heap.objs.size,_,I1,rfl,⟨s.heap.objs.size,x,y,fr,rfl,λws hw=>by rw[I.xJ hw hq1];exact hx,λws hw=>by rw[I.xJ hw hq2];exact hy,rfl⟩,⟨u1,u2,g1,?_,?_,?_,?_⟩,λb hb=>?_⟩
  . exact kk TI _ D.TIz D.TITO D.TIi1 D.TIi2 h2
  . exact g2.extBut _ _ D.TOz q2
  . exact q3.at λo q=>g2.extBut _ _ D.i1z q
  . exact q4.at λo q=>g2.extBut _ _ D.i2z q
  . rw[au (Nat.ne_of_lt (lts b hb))]
    exact(hf b hb).1
 done:=by
  intro X hP hw hK hc i pins s σ H E I hf st hg
  subst hP hw hK
  obtain⟨oa,ob,h1,h2,h3,h4,h5⟩:=st
  obtain⟨xs,ys,hq1,hq2,hend⟩:=hg
  obtain⟨Q6,yI,p1,hz1⟩:=I.list hq1
  obtain⟨its2,yJ,p2,hz2⟩:=I.list hq2
  have e1:=yI.length
  have e2:=yJ.length
  refine wpAny_pyNext_zip_end (I.ok.hd hc) D h1 h2 h3 h4 h5 p1.isList p2.isList (by
   rcases hend with q|q
   . exact .inl (by simp;omega)
   . exact .inr (by simp;omega)) λh' hk=>⟨rfl,?_⟩
  refine I.step (g':=s.gens) (d':=s.drawn) (t':=s.toks) (ch:=[z,TO,i1,i2]) (λb hb=>?_) (λb o _ _ hc q _=>?_) (λb o _ _ hc q _=>?_) (λb o _ q n=>n) (λb o hc q=>?_) (λb ys q=>q) (λb o v q=>q) (λb ps q=>⟨#[],by rw[q];simp⟩) (λm hm=>?_) (λb o q=>?_) I.bare
  . have hb':b∈[z,TI,TO,i1,i2]:=by
     have hb:b=z\/b=TO\/b=i1\/b=i2:=by simpa using hb
     rcases hb with rfl|rfl|rfl|rfl <;> simp
    obtain⟨f0,f1,f2,f3,f4,f5⟩:=hf b hb'
    exact⟨f3,f1,f4,f5⟩
  . exact hk b o (λy=>hc (by simp[y])) (λy=>hc (by simp[y])) (λy=>hc (by simp[y])) (λy=>hc (by simp[y])) q
  . exact⟨o.slots,hk b o (λy=>hc (by simp[y])) (λy=>hc (by simp[y])) (λy=>hc (by simp[y])) (λy=>hc (by simp[y])) q⟩
  . exact⟨o,hk b o (λy=>hc (by simp[y])) (λy=>hc (by simp[y])) (λy=>hc (by simp[y])) (λy=>hc (by simp[y])) q⟩
  . obtain⟨o,es,ep,ho,r⟩:=hm
    exact⟨o,es,ep,hk _ o (Ne.symm (hf z (by simp)).2.1) (Ne.symm (hf TO (by simp)).2.1) (Ne.symm (hf i1 (by simp)).2.1) (Ne.symm (hf i2 (by simp)).2.1) ho,r⟩
  . have nn:∀c v,H c=some v->∀y∈[z,TI,TO,i1,i2],c≠y:=λc v e y hy=>aR e (hf y hy).1
    refine(I.hok b o q).stay (λc v hc' y=>hk c v ?_ ?_ ?_ ?_ y) (λ_ y=>y) λ_ _ y=>y <;> (rcases hc' with y|y)
    all_goals first
     |(rw[y];exact nn b o q _ (by simp))
     |exact nn c _ y _ (by simp)
 self:=λA i s Q E st q=>by
  obtain⟨oa,ob,h1,_⟩:=st
  exact wpAny_pyIter_zip h1 q
noncomputable def acA (K:W.Frag) (ta:TA):TI:=λσ H R=>ta σ H λvs H1=>∃a b,vs=[.ref a,.ref b]/\(∃xs,aq K H1 a xs)/\(∃ys,aq K H1 b ys)/\R (vA K a b) H1
section
variable {X:Cx}
theorem Q7 {elts:List Expr}{k:Nat}{tpos:Pos}{a b:Expr}{ta:TA}{p pos:Pos}(hg:Gl X "zip")(hm:X.mg "zip"=none)(ha:PA X [a,b] ta)(hs:starEach [a,b] X.env=[(false,eval a X.env),(false,eval b X.env)]:=by rfl)
 (hs2:starEach [b] X.env=[(false,eval b X.env)]:=by rfl):PI X (.Tuple elts k tpos) (.Call (.Name "zip" p) [a,b] [] pos) (acA X.K ta):=by
 intro pins s σ H R I h
 refine Call_ (oA I hg hm boot_zip (PyProof.Rows.callWith_type1 (aO (ha pos pins s σ H _ I h) λus s1 ⟨vs,H1,I1,r1,q1⟩=>?_) (by rw[hs,hs2]) (by rw[hs2];rfl)))
 obtain⟨l1,l2,e,⟨xs,hq1⟩,⟨ys,hq2⟩,q⟩:=q1
 subst e
 obtain⟨u1,u2,rfl,Dd,Df⟩:=vals2 r1
 cases Dd
 cases Df
 obtain⟨Q6,yI,p1,hz1⟩:=I1.list hq1
 obtain⟨its2,yJ,p2,hz2⟩:=I1.list hq2
 have a1:l1<s1.heap.objs.size:=by obtain⟨_,e,_⟩:=p1.isList;exact Heap.lt_size e
 have a2:l2<s1.heap.objs.size:=by obtain⟨_,e,_⟩:=p2.isList;exact Heap.lt_size e
 refine call_zip_2 p1.isList p2.isList λh' q1 q2 q3 q4 q5 q6 q7=>?_
 refine wpAny_pyIter_zip q1 ?_
 have I2:Inv X pins σ H1 { s1 with heap:=h' }:=I1.kept (t':=s1.toks) q7
 have Dz:ZipApart (s1.heap.objs.size+4) (s1.heap.objs.size+2) (s1.heap.objs.size+3) s1.heap.objs.size (s1.heap.objs.size+1) l1 l2:=by
  have b1:@LT.lt Nat _ l1 s1.heap.objs.size:=a1
  have b2:@LT.lt Nat _ l2 s1.heap.objs.size:=a2
  constructor <;> (intro z;have z':(_:Nat)=_:=z;omega)
 refine⟨s1.heap.objs.size+4,[s1.heap.objs.size+4,s1.heap.objs.size+2,s1.heap.objs.size+3,s1.heap.objs.size,s1.heap.objs.size+1],_,_,H1,rfl,I2,acy Dz,⟨.none,.none,q1,q2,q3,q4,q5⟩,λb hb=>?_,q⟩
 have hb:s1.heap.objs.size<=b:=by
  have hb:b=s1.heap.objs.size+4\/b=s1.heap.objs.size+2\/b=s1.heap.objs.size+3\/b=s1.heap.objs.size\/b=s1.heap.objs.size+1:=by simpa using hb
  rcases hb with z|z|z|z|z <;> rw[z]
  . exact Nat.le_add_right _ _
  . exact Nat.le_add_right _ _
  . exact Nat.le_add_right _ _
  . exact Nat.le_refl _
  . exact Nat.le_add_right _ _
 exact I1.qF hb (I1.hok.fresh hb)
end
end L2
namespace HT
open PySem PyProof.Rows L2
section
open PySem.SeqAt
open PySem.AutoSeq1 (wpAny_loadPart')
open PySem.MeetsSeq PySem.MeetsSeq2 PySem.MeetsSeq3
inductive KeysAre:List Value->List Key->Prop
 |nil:KeysAre [] []
 |cons {u:Value} {k:Key} {us:List Value} {ks:List Key}:RelV (kV k) u->KeysAre us ks->KeysAre (u::us) (k::ks)
theorem KeysAre.of:∀{ks:List Key}{us:List Value},Vals (ks.map kV) us->KeysAre us ks
 |[],_,r=>by cases r;exact .nil
 |k::ks,_,r=>by
  cases r with
  |cons a b=>exact .cons a (KeysAre.of b)
theorem KeysAre.length:∀{us:List Value}{ks:List Key},KeysAre us ks->us.length=ks.length
 |_,_,.nil=>rfl
 |_,_,.cons _ h=>by rw[List.length_cons,List.length_cons,h.length]
theorem acB (A:Around)(s:Shared){k j:Key}{u v:Value}(r:RelV (kV k) u)(q:RelV (kV j) v)(ht:jM k=jM j):∃e,SeqAt.EqAt A s u v e/\(e=true↔k=j):=by
 rcases yH r with⟨m,t,rfl,rfl⟩|⟨m,t,rfl,rfl⟩ <;> rcases yH q with⟨n,t',rfl,rfl⟩|⟨n,t',rfl,rfl⟩
 . exact⟨m == n,SeqAt.EqAt.int_int m t n t',by simp⟩
 . cases ht
 . cases ht
 . exact⟨m == n,SeqAt.EqAt.str_str m t n t',by simp⟩
theorem acC (A:Around)(s:Shared){k j:Key}{u v:Value}(r:RelV (kV k) u)(q:RelV (kV j) v)(ht:jM k=jM j)(prog:Program)(w:World)(E:Value->Shared->Prop)(Q:Value->Shared->Prop)(h:Q (.bool (!gZ j k)) s):
 wpAny (model prog w) A (richCompare .LtE u v) Q E s:=by
 rcases yH r with⟨m,t,rfl,rfl⟩|⟨m,t,rfl,rfl⟩ <;> rcases yH q with⟨n,t',rfl,rfl⟩|⟨n,t',rfl,rfl⟩
 . have e:(!gZ (.inl n) (.inl m))=decide (m<=n):=by
    show(!decide (n<m))=decide (m<=n)
    rw[<-decide_not]
    exact decide_eq_decide.mpr Int.not_lt
   rw[e] at h
   exact(PyProof.Rows.le_int h:wpAny (model prog w) A (compareOp .LtE (.int m t) (.int n t')) Q E s)
 . cases ht
 . cases ht
 . exact(PySem.P.le_str h:wpAny (model prog w) A (compareOp .LtE (.str m t) (.str n t')) Q E s)
theorem acD (l b:Addr)(items items2:Array Value)(n n2:Nat)(dd dd2:Option Addr)(sl sl2:Array (Option Value))(ns ms:List Key)(hi:KeysAre items.toList ns)(hj:KeysAre items2.toList ms)(ht:ns.map jM=ms.map jM):
 Meets (Builtin.«tuple.__le__» ⟨[.ref l,.ref b],[]⟩)
  (λ_ R s=>s.heap.get? l=some { cls:=.type "tuple",dict:=dd,data:=.seq items n,slots:=sl }/\s.heap.get? b=some { cls:=.type "tuple",dict:=dd2,data:=.seq items2 n2,slots:=sl2 }/\
    R (.ok (.ret (.bool (!cJ ms ns)))) s):=
 .of_wp λprog w A R s h=>by
   obtain⟨hp,g,d,tk,os⟩:=s;obtain⟨hl,hb,h⟩:=h
   have f2:=AutoSeq1.sub_tuple_tuple
   have z1:items.size=ns.length:=by rw[<-hi.length];simp
   have z2:items2.size=ms.length:=by rw[<-hj.length];simp
   have z3:ns.length=ms.length:=by have:=congrArg List.length ht;simpa using this
   wp_walk using wpAny_loadPart' hl,wpAny_loadPart' hb,wpAny_forIn_list _ (λrest b s'=>b.1=none/\s'=⟨hp,g,d,tk,os⟩/\∃(vs ws:List Value) (ns' sy:List Key),rest=vs.zip ws/\
    KeysAre vs ns'/\KeysAre ws sy/\ns'.map jM=sy.map jM/\R (.ok (.ret (.bool (!cJ sy ns')))) ⟨hp,g,d,tk,os⟩) _
   case turn=>
    rintro⟨y,x⟩ rest b s' ⟨hb',rfl,vs,ws,ns',sy,hz,Dg,hwi,hlen,hR⟩
    cases Dg with
    |nil=>rw[List.zip_nil_left] at hz;cases hz
    |cons a acE=>
     cases hwi with
     |nil=>rw[List.zip_nil_right] at hz;cases hz
     |cons c acF=>
      rw[List.zip_cons_cons] at hz
      injection hz with hyx hrest
      injection hyx with hy hx
      subst hy hx
      rw[qX] at hR
      have t1:=(List.cons.inj hlen).1
      have t2:=(List.cons.inj hlen).2
      obtain⟨e,he,hiff⟩:=acB A.in1 ⟨hp,g,d,tk,os⟩ a c t1
      refine wpAny_bind (he prog w _ _ ?_)
      cases e with
      |true=>
       rw[if_pos (hiff.mp rfl).symm] at hR
       wp_walk
       exact⟨rfl,rfl,_,_,_,_,hrest,acE,acF,t2,hR⟩
      |false=>
       rw[if_neg (λq=>absurd (hiff.mpr q.symm) Bool.false_ne_true)] at hR
       have Dh:=acC A.in1 ⟨hp,g,d,tk,os⟩ a c t1 prog w
       wp_walk using Dh
       exact⟨_,rfl,by simpa using hR⟩
   case fin=>
    rintro⟨b1,b2⟩ s' ⟨hb',rfl,vs,ws,ns',sy,hz,Dg,hwi,hlen,hR⟩
    simp only at hb'
    subst hb'
    have hv:(!cJ sy ns')=decide (items.size<=items2.size):=by
     cases Dg with
     |nil=>
      cases hwi with
      |nil=>exact(decide_eq_true (by omega)).symm
      |cons c hw=>cases hlen
     |cons a hv=>
      cases hwi with
      |nil=>cases hlen
      |cons c hw=>
       rw[List.zip_cons_cons] at hz
       cases hz
    rw[hv] at hR
    wp_walk
    exact⟨_,rfl,by simpa[Builtin.Tuple.tupleCompareSizes] using hR⟩
   case h=>
    exact⟨rfl,rfl,items.toList,items2.toList,ns,ms,rfl,hi,hj,ht,h⟩
end
section
variable {prog:Program}{w:World}{A:Around}{E:Value->Shared->Prop}{s:Shared}
theorem acG {l b:Addr}{items items2:Array Value}{ns ms:List Key}{Q:Value->Shared->Prop}(hl:IsTup s.heap l items)(hb:IsTup s.heap b items2)(hi:KeysAre items.toList ns)(hj:KeysAre items2.toList ms)(ht:ns.map jM=ms.map jM)
 (hu:A.units<cLine) (h:Q (.bool (!cJ ms ns)) s):wpAny (model prog w) A (compareOp .LtE (.ref l) (.ref b)) Q E s:=by
 obtain⟨⟨cls,dd,data,sl⟩,ho,hc,n,hd⟩:=id hl
 obtain⟨⟨cls2,dd2,data2,sl2⟩,ho2,hc2,n2,hd2⟩:=id hb
 simp only at hc hd hc2 hd2
 subst hc hd hc2 hd2
 exact richCompare_meets_room (op:=.LtE) ⟨_,ho,rfl⟩ ⟨_,ho2,rfl⟩ PySem.F.slot_tuple_le PySem.F.entry_tuple_le (PySem.F.args_tuple_le_2 _ _) (acD l b items items2 n n2 dd dd2 sl sl2 ns ms hi hj ht)
  ⟨ho,ho2,show Value.bool (!cJ ms ns)≠Value.notImplemented/\Q (.bool (!cJ ms ns)) s from⟨(λx=>nomatch x),h⟩⟩ hu
end
end HT
namespace L2
open PySem PySem.Spec PyProof.Rows
section
variable {X:Cx}
noncomputable def acH (K:W.Frag):R2:=λx y H Q=>∃a b ns ms,x=.ref a/\y=.ref b/\aN K H a (ns.map kV)/\aN K H b (ms.map kV)/\ns.map jM=ms.map jM/\Q (.bl (!cJ ms ns)) H
theorem acI (hu:X.A.units<cLine):dJ X (compareOp .LtE) (acH X.K):=by
 intro pins s σ H x y v u Q I rx ry h
 obtain⟨a,b,ns,ms,rfl,rfl,ha,hb,ht,q⟩:=h
 cases rx
 cases ry
 obtain⟨its,r1,p1,_⟩:=I.tuple ha
 obtain⟨its2,r2,p2,_⟩:=I.tuple hb
 exact HT.acG p1 p2 (by simpa using HT.KeysAre.of r1) (by simpa using HT.KeysAre.of r2) ht hu ⟨.bl (!cJ ms ns),H,I,rfl,q⟩
end
inductive jy (K:W.Frag) (H:Hp):Nat->V->V->Bool->Prop
 |ref {n:Nat} (a:Addr):jy K H n (.ref a) (.ref a) true
 |int {n:Nat} (a b:Int):jy K H n (.int a) (.int b) (decide (a=b))
 |str {n:Nat} (a b:Str):jy K H n (.str a) (.str b) (decide (a=b))
 |is {n:Nat} (a:Int) (b:Str):jy K H n (.int a) (.str b) false
 |si {n:Nat} (a:Str) (b:Int):jy K H n (.str a) (.int b) false
 |lst {n:Nat} {a b:Addr} {xs ys:List V} {e:Nat->Bool} (ne:a≠b) (ha:aq K H a xs) (hb:aq K H b ys) (hl:xs.length=ys.length) (he:∀(j:Nat) (x y:V),xs[j]? =some x->ys[j]? =some y->jy K H n x y (e j)):
   jy K H (n+1) (.ref a) (.ref b) ((List.range xs.length).all e)
 |tup {n:Nat} {a b:Addr} {xs ys:List V} {e:Nat->Bool} (ne:a≠b) (ha:aN K H a xs) (hb:aN K H b ys) (he:∀(j:Nat) (x y:V),xs[j]? =some x->ys[j]? =some y->jy K H n x y (e j)):
   jy K H (n+1) (.ref a) (.ref b) ((List.range (min xs.length ys.length)).all e && xs.length == ys.length)
section
variable {X:Cx}{pins:List (Addr × Obj)}{σ:St}{H:Hp}{s:Shared}
theorem Vals.at:∀{xs:List V}{us:List Value},Vals xs us->∀(j:Nat) (h:j<us.length),∃x,xs[j]? =some x/\RelV x us[j]
 |_,_,.nil,j,h=>absurd h (by simp)
 |_,_,.cons a r,0,h=>⟨_,rfl,a⟩
 |_,_,.cons a r,j+1,h=>by
  obtain⟨x,h1,h2⟩:=Vals.at r j (by simpa using h)
  exact⟨x,by simpa using h1,h2⟩
theorem jy.Q8 (I:Inv X pins σ H s){n:Nat}{x y:V}{b:Bool}(h:jy X.K H n x y b):∀(A:Around) (u v:Value),RelV x u->RelV y v->A.units+n<cLine->SeqAt.EqAt A s u v b:=by
 induction h with
 |ref a=>
  intro A u v ru rv hu
  cases ru
  cases rv
  exact SeqAt.EqAt.same _
 |int a b=>
  intro A u v ru rv hu
  obtain⟨t,rfl⟩:=ru
  obtain⟨t',rfl⟩:=rv
  exact SeqAt.EqAt.int_int a t b t'
 |str a b=>
  intro A u v ru rv hu
  obtain⟨t,rfl⟩:=ru
  obtain⟨t',rfl⟩:=rv
  have e:decide (a=b)=(a == b):=by
   by_cases z:a=b
   . rw[decide_eq_true z,z];simp
   . rw[decide_eq_false z];exact(beq_eq_false_iff_ne.mpr z).symm
  rw[e]
  exact SeqAt.EqAt.str_str a t b t'
 |is a b=>
  intro A u v ru rv hu
  obtain⟨t,rfl⟩:=ru
  obtain⟨t',rfl⟩:=rv
  exact SeqAt.EqAt.int_str a t b t'
 |si a b=>
  intro A u v ru rv hu
  obtain⟨t,rfl⟩:=ru
  obtain⟨t',rfl⟩:=rv
  exact SeqAt.EqAt.str_int a t b t'
 |@lst n a b xs ys e ne ha hb hl he ih=>
  intro A u v ru rv hu
  cases ru
  cases rv
  obtain⟨its,r1,p1,_⟩:=I.list ha
  obtain⟨its2,r2,p2,_⟩:=I.list hb
  have l1:=r1.length
  have l2:=r2.length
  refine .of_refs ne ?_
  have q:xs.length=its.toArray.size:=by rw[List.size_toArray];exact l1
  rw[q]
  refine SeqAt.RcAt.lists p1.isList p2.isList (by rw[List.size_toArray,List.size_toArray];omega) (by omega) λj h1 h2=>?_
  obtain⟨x',e1,q1⟩:=Vals.at r1 j (by simpa using h1)
  obtain⟨y',e2,q2⟩:=Vals.at r2 j (by simpa using h2)
  refine ih j x' y' e1 e2 _ _ _ (by simpa using q1) (by simpa using q2) ?_
  show A.units+1+n<cLine
  omega
 |@tup n a b xs ys e ne ha hb he ih=>
  intro A u v ru rv hu
  cases ru
  cases rv
  obtain⟨its,r1,p1,_⟩:=I.tuple ha
  obtain⟨its2,r2,p2,_⟩:=I.tuple hb
  have l1:=r1.length
  have l2:=r2.length
  refine .of_refs ne ?_
  have q:xs.length=its.toArray.size:=by rw[List.size_toArray];exact l1
  have q':ys.length=its2.toArray.size:=by rw[List.size_toArray];exact l2
  rw[q,q']
  refine SeqAt.RcAt.tuples p1 p2 (by omega) λj h1 h2=>?_
  obtain⟨x',e1,q1⟩:=Vals.at r1 j (by simpa using h1)
  obtain⟨y',e2,q2⟩:=Vals.at r2 j (by simpa using h2)
  refine ih j x' y' e1 e2 _ _ _ (by simpa using q1) (by simpa using q2) ?_
  show A.units+1+n<cLine
  omega
noncomputable def Q9 (K:W.Frag) (H:Hp) (n:Nat) (xs ys:List V) (e:Nat->Bool):Prop:=∀(j:Nat) (x y:V),xs[j]? =some x->ys[j]? =some y->jy K H n x y (e j)
noncomputable def Q_ (K:W.Frag) (n:Nat):R2:=λx y H Q=>∃a b xs ys e,x=.ref a/\y=.ref b/\Q9 K H n xs ys e/\
 ((aq K H a xs/\aq K H b ys/\((xs.length=ys.length/\Q (.bl ((List.range xs.length).all e)) H)\/(xs.length≠ys.length/\Q (.bl false) H)))\/
  (aN K H a xs/\aN K H b ys/\Q (.bl ((List.range (min xs.length ys.length)).all e && xs.length == ys.length)) H))
theorem Di {n:Nat}(hu:X.A.units+1+n<cLine):dJ X (compareOp .Eq) (Q_ X.K n):=by
 intro pins s σ H x y v u Q I rx ry h
 obtain⟨a,b,xs,ys,e,rfl,rfl,hd,h⟩:=h
 cases rx
 cases ry
 rcases h with⟨ha,hb,h⟩|⟨ha,hb,q⟩
 . obtain⟨its,r1,p1,_⟩:=I.list ha
   obtain⟨its2,r2,p2,_⟩:=I.list hb
   have l1:=r1.length
   have l2:=r2.length
   rcases h with⟨hl,q⟩|⟨hl,q⟩
   . have z:xs.length=its.toArray.size:=by rw[List.size_toArray];exact l1
     rw[z] at q
     refine SeqAt.eq_listAt (e:=e) p1.isList p2.isList (by rw[List.size_toArray,List.size_toArray];omega) (by omega) (λj h1 h2=>?_) ⟨.bl _,H,I,rfl,q⟩
     obtain⟨x',e1,q1⟩:=Vals.at r1 j (by simpa using h1)
     obtain⟨y',e2,q2⟩:=Vals.at r2 j (by simpa using h2)
     refine(hd j x' y' e1 e2).Q8 I _ _ _ (by simpa using q1) (by simpa using q2) ?_
     show X.A.units+1+n<cLine
     omega
   . refine SeqAt.eq_list_lengthsAt p1.isList p2.isList ?_ (by omega) ⟨.bl false,H,I,rfl,q⟩
     rw[List.size_toArray,List.size_toArray]
     simp
     omega
 . obtain⟨its,r1,p1,_⟩:=I.tuple ha
   obtain⟨its2,r2,p2,_⟩:=I.tuple hb
   have l1:=r1.length
   have l2:=r2.length
   have z:xs.length=its.toArray.size:=by rw[List.size_toArray];exact l1
   have z':ys.length=its2.toArray.size:=by rw[List.size_toArray];exact l2
   rw[z,z'] at q
   refine SeqAt.eq_tupleAt (e:=e) p1 p2 (by omega) (λj h1 h2=>?_) ⟨.bl _,H,I,rfl,q⟩
   obtain⟨x',e1,q1⟩:=Vals.at r1 j (by simpa using h1)
   obtain⟨y',e2,q2⟩:=Vals.at r2 j (by simpa using h2)
   refine(hd j x' y' e1 e2).Q8 I _ _ _ (by simpa using q1) (by simpa using q2) ?_
   show X.A.units+1+n<cLine
   omega
end
noncomputable def acJ (e:Addr) (l:List Env) (h h':Heap):Prop:=
 (∀b o,b ∉ frs l->b≠e->h.get? b=some o->h'.get? b=some o)/\∀b o,b≠e->h.get? b=some o->∃sl,h'.get? b=some { o with slots:=sl }
theorem Dj {f:Array Value->Array Value}{o:Obj}{vs:Array Value}(h:o.data=.fields vs):Obj.mapFields f o={ o with data:=.fields (f vs) }:=by
 obtain⟨c,d,da,sl⟩:=o
 have h:da=.fields vs:=h
 subst h
 rfl
section
variable {M:Model}{A:Around}{E:Value->Shared->Prop}{s:Shared}
theorem Ra {base:Heap}{env:Env}{outer:List Env}{L e:Addr}{oe:Obj}{vs:Array Value}{head:Value}{had:Bool}{Q:Unit->Shared->Prop}
 (hfr:A.frames=some (env::outer)) (hl:s.heap.FunFrames base (env::outer)) (hf:env.frame=some L) (he:s.heap.get? e=some oe) (hd:oe.data=.fields vs) (hsz:1<vs.size)
 (h:∀(h':Heap) (T:Addr),s.heap.objs.size<=T->acJ e (env::outer) s.heap h'->h'.get? e=some { oe with data:=.fields (vs.setIfInBounds 1 (.ref T)) }->(∃oT ts,h'.get? T=some oT/\oT.data=.fields ts/\ts[3]? =some (rawInt L))->Q () { s with heap:=h' }):
 wpAny M A (do let a <-frameOf env;let pl <-entryPlaceOf L had;let b <-EntryCells.newEntry head a .none (rawInt L) .none pl;setField (.ref e) 1 b) Q E s:=by
 have nfr:e ∉ (env::outer).filterMap (·.frame):=λz=>by
  obtain⟨_,o,ho,hn⟩:=hl.mem z
  rw[he] at ho
  cases ho
  exact hn vs hd
 refine wpAny_bind (wpAny_frameOf_fun hfr hl hf λh1 x1=>?_)
 refine wpAny_bind (wpAny_entryPlaceOf λpl Rb=>?_)
 unfold EntryCells.newEntry newFields
 refine wpAny_bind (wpAny_newObj_type ?_ (Rb.sizeOk5 _ _ _ _ _))
 have e1:h1.get? e=some oe:=(x1.2.1 e nfr).trans he
 generalize hob:({ cls:=.type "traceback",dict:=none,data:=.fields ([head,.ref L,.none,rawInt L,.none]++(if pl.isEmpty then List.replicate 6 Value.none else pl)).toArray }:Obj)=ob
 have e2:(h1.push ob).get? e=some oe:=Heap.get?_push_of_some ob e1
 have nTe:h1.objs.size≠e:=Nat.ne_of_gt (Heap.lt_size e1)
 have acM:({ oe with data:=.fields (vs.setIfInBounds 1 (.ref h1.objs.size)) }:Obj).isFreed=false:=Obj.isFreed_of_fields rfl
 have em:Obj.mapFields (·.setIfInBounds 1 (Value.ref h1.objs.size)) oe={ oe with data:=.fields (vs.setIfInBounds 1 (.ref h1.objs.size)) }:=Dj hd
 refine wpAny_setField e2 hd hsz (h _ h1.objs.size (Nat.le_of_eq x1.1.symm) ⟨λb o hb hbe ho=>?_,λb o hbe ho=>?_⟩ ?_ ?_)
 . rw[Heap.get?_update_other _ _ (Ne.symm hbe)]
   exact Heap.get?_push_of_some ob ((x1.2.1 b hb).trans ho)
 . obtain⟨sl,hs⟩:=x1.2.2 b o ho
   refine⟨sl,?_⟩
   rw[Heap.get?_update_other _ _ (Ne.symm hbe)]
   exact Heap.get?_push_of_some ob hs
 . have:=Heap.get?_update_self (Obj.mapFields (·.setIfInBounds 1 (Value.ref h1.objs.size))) e2 (by rw[em];exact acM)
   rw[em] at this
   exact this
 . refine⟨ob,_,?_,by rw[<-hob],?_⟩
   . rw[Heap.get?_update_other _ _ (Ne.symm nTe)]
     exact Heap.get?_push_size h1 (by rw[<-hob];rfl)
   . first|(simp;done)|(rcases Rb with rfl|⟨_,_,_,_,_,_,_,rfl⟩ <;> simp)
end
theorem cM.ex {P:Program}{w:World}{H:Hp}{h:Heap}{a:Addr}{o:HO}(x:cM P w H h a o):∃ob,h.get? a=some ob:=by
 cases o with
 |lst xs=>obtain⟨_,_,_,_,e⟩:=x;exact⟨_,e⟩
 |tup xs=>obtain⟨_,_,_,ob,e,_⟩:=x;exact⟨ob,e⟩
 |dK kvs=>obtain⟨_,_,_,_,ob,_,_,e,_⟩:=x;exact⟨ob,e⟩
 |dT kvs=>obtain⟨_,_,_,_,ob,_,_,e,_⟩:=x;exact⟨ob,e⟩
 |set S n=>obtain⟨ob,_,_,_,e,_⟩:=x;exact⟨ob,e⟩
 |ins C dx fs=>obtain⟨_,_,_,e,_⟩:=x;exact⟨_,e⟩
 |own y=>exact x
 |xd fs=>obtain⟨_,⟨ob,_,_,e,_⟩,_⟩:=x;exact⟨ob,e⟩
 |rng lo hi=>obtain⟨_,_,_,e⟩:=x;exact⟨_,e⟩
 |iB ob u=>obtain⟨e,_⟩:=x;exact⟨_,e⟩
 |dI ps=>exact⟨_,show h.get? a=some _ from x⟩
 |met f y=>exact⟨_,show h.get? a=some _ from x⟩
 |ext φ=>obtain⟨_,⟨ob,e⟩,_⟩:=x;exact⟨ob,e⟩
section
variable {X:Cx}{pins:List (Addr × Obj)}{σ:St}{H:Hp}{s:Shared}
theorem Heap.Rc {h:Heap}{a:Addr}(e:h.objs.size<=a):h.get? a=none:=by
 cases q:h.get? a with
 |none=>rfl
 |some o=>exact absurd (Nat.lt_of_lt_of_le (Heap.lt_size q) e) (Nat.lt_irrefl _)
theorem Inv.sE (I:Inv X pins σ H s)(hex:X.ex=[]){a:Addr}(e:s.heap.get? a=none):X.s₀.heap.get? a=none:=by
 cases q:X.s₀.heap.get? a with
 |none=>rfl
 |some o=>
  obtain⟨o',e'⟩:=I.base.there a o q (by rw[hex];simp)
  rw[e] at e';cases e'
theorem Inv.Rf (I:Inv X pins σ H s)(hex:X.ex=[]){a T:Addr}{h':Heap}(ha:X.s₀.heap.get? a=none)(hT:X.s₀.heap.get? T=none)(na:H a=none)(nT:H T=none)
 (k1:∀b o,b ∉ frs X.stack->b≠a->b≠T->s.heap.get? b=some o->h'.get? b=some o) (k2:∀b o,b≠a->b≠T->s.heap.get? b=some o->∃sl,h'.get? b=some { o with slots:=sl }):
 Un (frs X.outer) [] X.H₀ H X.s₀.heap h'/\cF X.prog X.w H h':=by
 have B:=I.base
 rw[hex] at B
 have old:∀b o,X.s₀.heap.get? b=some o->b≠a/\b≠T/\b≠X.env.locals:=λb o e=>by
  have hb:=Heap.lt_size e
  exact⟨(λz=>by rw[z,ha] at e;cases e),(λz=>by rw[z,hT] at e;cases e),λz=>Nat.lt_irrefl _ (Nat.lt_of_lt_of_le (z ▸ hb) I.ok.above)⟩
 refine⟨⟨λb o e n hf _=>?_,λb o e n hf _=>?_,λb o e n _=>B.free b o e n (by simp),λb o e _=>?_,B.tups,B.jg,B.jh⟩,λb o e=>(I.hok b o e).stay (λc u hc r=>?_) (λ_ r=>r) λ_ _ r=>r⟩
 . obtain⟨o1,o2,o3⟩:=old b o e
   refine k1 b o (λz=>?_) o1 o2 (B.keep b o e n hf (by simp))
   rcases List.mem_cons.mp (I.rQ b z) with z|z
   . exact o3 z
   . exact hf z
 . obtain⟨o1,o2,o3⟩:=old b o e
   obtain⟨sl,e1⟩:=B.slot b o e n hf (by simp)
   obtain⟨sl',e2⟩:=k2 b _ o1 o2 e1
   exact⟨sl',e2⟩
 . obtain⟨o1,o2,o3⟩:=old b o e
   obtain⟨o',e1⟩:=B.there b o e (by simp)
   obtain⟨sl,e2⟩:=k2 b o' o1 o2 e1
   exact⟨_,e2⟩
 . have hc':∃v,H c=some v:=by
    rcases hc with z|z
    . exact⟨o,by rw[z];exact e⟩
    . exact⟨_,z⟩
   obtain⟨v,hv⟩:=hc'
   refine k1 c u (λz=>?_) (λz=>?_) (λz=>?_) r
   . rw[I.uJ c z] at hv;cases hv
   . rw[z,na] at hv;cases hv
   . rw[z,nT] at hv;cases hv
end
section
variable {M:Model}{A:Around}{E:Value->Shared->Prop}{s:Shared}
end
section
variable {X:Cx}{pins:List (Addr × Obj)}{σ:St}{H:Hp}{s:Shared}
end
section
variable {X:Cx}{k:Nat}{f:Addr}{fd:FuncData}{ps:List Str}{sp:Sp}{eG:List V}{ds:List Value}{Ek:XK}{x:Str}{p pos:Pos}{e:Expr}{es:List Expr}{t:TA}{te:TE}
end
end L2
namespace L2
open PySem PySem.Spec PyProof.Rows PySem.W
theorem acN {M:Model}{A:Around}{E:Value->Shared->Prop}{K:Frag}{s:Shared}{a C D:Addr}{oe:Obj}{b:Bool}{Q:Bool->Shared->Prop}(X:K.In s.heap)(h1:typeIn K (.ref D)=some (.type "type"))(h2:(clsIn K D).isSome=true)(h3:subIn K (.ref D) (.type "BaseException")=some true)
 (h4:subIn K (.ref C) (.ref D)=some b) (he:s.heap.get? a=some oe) (hc:oe.cls=.ref C) (hq:Q b s):wpAny M A (excMatches (.ref a) (.ref D)) Q E s:=by
 obtain⟨h,g,d,t,os⟩:=s
 have L1:=looks_typeIn (M:=M) X h1
 have L2:Looks M h (isSubtype (.type "type") (.type "tuple")) false:=Looks.of_pure tc_notTuple
 have L3:=looks_subIn (M:=M) X h3
 have L4:=looks_subIn (M:=M) X h4
 have L5:Looks M h (isType (.ref D)) true:=by
  unfold clsIn at h2
  split at h2
  . rename_i c' d' cd' sl' ho
    intro A' Q' E' s' k q
    unfold isType loadHead
    exact wpAny_bind (wpAny_loadPart (k _ _ (X _ _ ho)) (wpAny_pure q))
  . cases h2
 have L6:Looks M h (typeOf (.ref a)) (.ref C):=by
  have z:Looks M h (typeOf (.ref a)) oe.cls:=(Looks.ld (show h.get? a=some oe from he)).andThen .now
  rw[hc] at z
  exact z
 have L7:Looks M h (isInstance (.ref D) (.type "tuple")) false:=L1.andThen L2
 have L8:Looks M h (isExcClass (.ref D)) true:=λA' Q' E' s' k q=>by
  unfold isExcClass
  exact wpAny_bind (L5 A' _ E' s' k (L3 A' _ E' s' k q))
 unfold excMatches
 refine wpAny_bind (L7.at ?_)
 repeat (any_goals (first|assumption|with_reducible refine L8.at ?_|with_reducible refine L6.at ?_|with_reducible refine L4.at ?_|wp_step))
 cases b <;> (repeat (any_goals (first|assumption|wp_step)))
end L2
namespace L2
open PySem PySem.Spec PyProof.Rows
section
variable {X:Cx}{pins:List (Addr × Obj)}{σ:St}{H:Hp}{s:Shared}
theorem Inv.unbind {M:Model}{A:Around}{E:Value->Shared->Prop}{i:Nat}{x:Str}{pos:Pos}{Q:Unit->Shared->Prop}(I:Inv X pins σ H s)(hN:X.N.Nodup)(hi:X.N[i]? =some x)(hk:X.env.kindOf x=some .local)
 (h:∀s',Inv X pins (σ.set i none) H s'->Q () s'):wpAny M A (do bindName X.env x .none;unbindBehindTheSuite X.env x pos) Q E s:=by
 obtain⟨m,hn,hl⟩:=id I.loc
 have hcls:(X.env.scope.kind == .class || (X.env.scope.kind == .module && X.env.locals != X.env.globals))=false:=by rw[I.ok.kind];rfl
 have xu:i<σ.length:=by rw[I.len];exact(List.getElem?_eq_some_iff.mp hi).1
 have jX:=I.jX
 refine wpAny_nameGoes_keeps hk hn hcls λh' v hn' hs=>?_
 obtain⟨oL,_,_,hoL,_⟩:=id hn
 have tracked:cF X.prog X.w H h':=λb ob e=>by
  refine(I.hok b ob e).stay (λc w' hc q=>(hs.2 c ?_).trans q) (λ_ q=>q) λ_ _ q=>q
  rintro rfl
  rcases hc with rfl|hc
  . rw[I.free] at e;cases e
  . rw[I.free] at hc;cases hc
 refine h _ ⟨I.ok,I.os,I.bare,⟨λb o e n hb hx=>?_,λb o e n hb hx=>?_,I.base.free,λb o e hx=>?_,I.base.tups,I.base.jg,I.base.jh⟩,⟨_,hn',λj y v' e1 e2 e3=>?_⟩,λy c e=>?_,I.free,I.iC,λp hp=>?_,tracked,by simpa using I.len⟩
 . exact(hs.2 b (Nat.ne_of_lt (Nat.lt_of_lt_of_le (Heap.lt_size e) I.ok.above))).trans (I.base.keep b o e n hb hx)
 . obtain⟨sl,e1⟩:=I.base.slot b o e n hb hx
   exact⟨sl,(hs.2 b (Nat.ne_of_lt (Nat.lt_of_lt_of_le (Heap.lt_size e) I.ok.above))).trans e1⟩
 . obtain⟨o',e1⟩:=I.base.there b o e hx
   exact⟨o',(hs.2 b (Nat.ne_of_lt (Nat.lt_of_lt_of_le (Heap.lt_size e) I.ok.above))).trans e1⟩
 . by_cases hj:j=i
   . subst hj
     rw[List.getElem?_set_self xu] at e2
     cases e2
   . rw[List.getElem?_set_ne (Ne.symm hj)] at e2
     obtain⟨u',r',q⟩:=hl j y v' e1 e2 e3
     refine⟨u',r',?_⟩
     rcases q with⟨k,e⟩|⟨k,c,e,z⟩
     . refine .inl ⟨k,?_⟩
       have:y≠x:=λe=>hj (Bl hN e1 (e ▸ hi))
       simp[this,e]
     . exact .inr ⟨k,c,e,z.sameBut hs (jX y c e)⟩
 . obtain⟨w',z⟩:=I.cell y c e
   exact⟨w',z.sameBut hs (jX y c e)⟩
 . obtain⟨e,n,ne,nf,d⟩:=I.pin p hp
   exact⟨(hs.2 p.1 ne).trans e,n,ne,nf,d⟩
noncomputable abbrev Cx.marked (X:Cx) (a:Addr):Cx:={ X with A:=X.A.mark (some (.ref a)),calm:=false,xe:=λ_ _=>False }
theorem Inv.marked (I:Inv X pins σ H s)(a:Addr):Inv (X.marked a) pins σ H s:=
 ⟨⟨I.ok.mod,I.ok.kind,I.ok.glob,I.ok.blt,I.ok.above,I.ok.inj,I.ok.has,I.ok.cab,(λz=>by cases z),I.ok.frames,I.ok.stk,I.ok.Bk,I.ok.bs,I.ok.jW,I.ok.rO,I.ok.uI,I.ok.ju,I.ok.ou⟩,I.os,I.bare,I.base,I.loc,I.cell,I.free,I.iC,I.pin,I.hok,I.len⟩
theorem Inv.unmarked {a:Addr}(I:Inv (X.marked a) pins σ H s)(ok:X.Ok):Inv X pins σ H s:=⟨ok,I.os,I.bare,I.base,I.loc,I.cell,I.free,I.iC,I.pin,I.hok,I.len⟩
end
noncomputable def Ends.un (D:Ends) (i:Nat):Ends:={ nx:=λσ H=>D.nx (σ.set i none) H,rt:=D.rt,bk:=λσ H=>D.bk (σ.set i none) H,ct:=λσ H=>D.ct (σ.set i none) H }
end L2
namespace L2
open PySem PySem.Spec PySem.Calls PyProof.Rows PySem.W PySem.Builtin PySem.Builtin.ObjectAttr PySem.Builtin.Getset_descriptor
structure iU (K:Frag) (C:Addr):Prop where
 ga:findIn K (.ref C) "__getattribute__"=some (some (.builtin "BaseException.__getattribute__"))
 gt:findIn K (.ref C) "__getattr__"=some none
 cl:findIn K (.ref C) "__class__"=some (some (.builtin "object.__class__"))
 ob:mroIn K C (.type "object")=some true
 bx:mroIn K C (.type "BaseException")=some true
 is:(clsIn K C).isSome=true
section
variable {prog:Program}{w:World}{A:Around}{E:Value->Shared->Prop}{K:Frag}{h:Heap}{g:Array GenState}{d:Drawn}{t:Nat}{os:OsState}{a C:Addr}{o:Obj}
theorem acO {R:Result->Shared->Prop}{tp:Value}(X:K.In h)(Z:iU K C)(hx:h.get? a=some o)(hc:o.cls=.ref C)(hq:R (.ok (.ret (.ref C))) ⟨h,g,d,t,os⟩):
 codeAny (model prog w) A (.call (.builtin "getset_descriptor.__get__") ⟨[.builtin "object.__class__",.ref a,tp],[]⟩) R ⟨h,g,d,t,os⟩:=by
 have L0:Looks (model prog w) h (typeOf (.ref a)) (.ref C):=by
  have z:Looks (model prog w) h (typeOf (.ref a)) o.cls:=(Looks.ld hx).andThen .now
  rw[hc] at z
  exact z
 have L1:=looks_mroIn (M:=model prog w) X Z.ob
 refine codeAny_call_builtin KF.slot_gs.plain KF.entry_gs (KF.slot_gs.check _ _ _ _ _ _ _ _ KF.type_class (KF.args_gs _ _ _) ?_)
 unfold Builtin.«getset_descriptor.__get__» descrGet
 rw[dga_obj]
 refine wpAny_bind (wpAny_pure ?_)
 unfold descrGetter descrCheckInstance descrNameAndClass isInstance
 simp only[KF.owner_class]
 repeat lk
 refine⟨Code.quiet_builtin _ (by decide +kernel),codeAny_builtin KF.entry_class ?_⟩
 unfold Builtin.«object.__class__» shownTypeOf
 repeat lk
 exact hq
theorem acP {tk:Tok}{Q:Fin->Shared->Prop}(X:K.In h)(Z:iU K C)(hx:h.get? a=some o)(hc:o.cls=.ref C)(hq:Q (.done (.ret (.ref C))) ⟨h,g,d,t,os⟩):
 wpAny (model prog w) A (Builtin.«object.__getattribute__» ⟨[.ref a,.str "__class__" tk],[]⟩) Q E ⟨h,g,d,t,os⟩:=by
 have hT5:(⟨h,g,d,t,os⟩:Shared).TypeIs (.builtin "object.__class__") "getset_descriptor":=F.typeOf_object_class
 have f5:=F.typeOf_object_class
 have f6:=F.slot_gs_get.lookup
 have f7:=F.slot_gs_set.lookup
 have L1:=looks_findIn (M:=model prog w) X Z.cl
 repeat (any_goals (first|assumption|(with_reducible refine wpAny_loadPart_at hx ?_;rw[hc])|with_reducible refine L1.at ?_|wp_step))
 refine acO X Z hx hc ?_
 repeat (any_goals (first|assumption|wp_step))
theorem Rg {nameV:Value}{M:Model}{Q:Unit->Shared->Prop}(X:K.In h)(Z:iU K C)(hx:h.get? a=some o)(hc:o.cls=.ref C)(hq:Q () ⟨h,g,d,t,os⟩):
 wpAny M A (checkBuiltinCall "BaseException.__getattribute__" ⟨[.ref a,nameV],[]⟩) Q E ⟨h,g,d,t,os⟩:=by
 have hk:builtinKind "BaseException.__getattribute__"=some .slot:=by decide +kernel
 have hsplit:splitId "BaseException.__getattribute__"=some ("BaseException","__getattribute__"):=by decide +kernel
 have ha:=F.args_bexc_ga (.ref a) nameV
 have L1:=looks_mroIn (M:=M) X Z.bx
 simp only[checkBuiltinCall,hk,hsplit]
 refine wpAny_bind ?_
 . unfold isInstance
   repeat (first|(with_reducible refine wpAny_loadPart_at hx ?_;rw[hc])|with_reducible refine L1.at ?_|wp_step)
   exact hq
theorem acQ {tk:Tok}{fill expr:Bool}{Q:Value->Shared->Prop}(X:K.In h)(Z:iU K C)(hx:h.get? a=some o)(hc:o.cls=.ref C)(hq:Q (.ref C) ⟨h,g,d,t,os⟩):
 wpAny (model prog w) A (getAttrBy (.ref a) (.str "__class__" tk) fill expr) Q E ⟨h,g,d,t,os⟩:=by
 have f3:=F.attr_ValueError.ga.bind (.ref a)
 have hx0:(expr && onTheHeap (Value.builtin "BaseException.__getattribute__"))=false:=by cases expr <;> rfl
 have hx2:(Value.builtin "BaseException.__getattribute__" == Value.builtin "object.__getattribute__")=false:=by decide +kernel
 have hx1:(onTheHeap (Value.ref C) && Value.builtin "BaseException.__getattribute__" == Value.builtin "object.__getattribute__")=false:=by rw[hx2];rfl
 have L1:=looks_findIn (M:=model prog w) X Z.ga
 have L2:=looks_findIn (M:=model prog w) X Z.gt
 repeat (any_goals (first|assumption|(with_reducible refine wpAny_loadPart_at hx ?_;rw[hc])|with_reducible refine L1.at ?_|with_reducible refine L2.at ?_|wp_step))
 refine codeAny_call_builtin F.attr_ValueError.ga.plain F.entry_bexc_ga (Rg X Z hx hc (acP X Z hx hc ?_))
 repeat (any_goals (first|assumption|wp_step))
theorem acR {Q:Option Value->Shared->Prop}(X:K.In h)(Z:iU K C)(hx:h.get? a=some o)(hc:o.cls=.ref C)(hq:Q (some (.ref C)) ⟨h,g,d,t+1,os⟩):wpAny (model prog w) A (getAttr? (.ref a) "__class__") Q E ⟨h,g,d,t,os⟩:=by
 unfold getAttr? getAttrBy?
 repeat (any_goals (first|assumption|with_reducible apply acQ X Z hx hc|wp_step))
end
theorem Rh {K:Frag}{a C:Addr}(Z:iU K C):KitX K (.ref a) (.ref C) (λh=>∃o,h.get? a=some o/\o.cls=.ref C) where
 ty:=λM h _ ⟨o,hx,hc⟩=>by
  have z:Looks M h (typeOf (.ref a)) o.cls:=(Looks.ld hx).andThen .now
  rw[hc] at z
  exact z
 it:=λM h X _=>by
  have h2:=Z.is
  unfold clsIn at h2
  split at h2
  . rename_i c' d' cd' sl' ho
    intro A' Q' E' s' k q
    unfold isType loadHead
    exact wpAny_bind (wpAny_loadPart (k _ _ (X _ _ ho)) (wpAny_pure q))
  . cases h2
 ne:=λh tp dd its n sl X htp=>by
  have h2:=Z.is
  refine Bool.eq_false_iff.mpr λq=>?_
  have e:C=tp:=by
   have:=beq_iff_eq.mp q
   cases this
   rfl
  subst e
  unfold clsIn at h2
  split at h2
  . rename_i c' d' cd' sl' ho
    have:=X _ _ ho
    rw[htp] at this
    cases this
  . cases h2
 ca:=λ{prog w A E Q s} X ⟨o,hx,hc⟩ k=>by
  obtain⟨h,g,d,t,os⟩:=s
  exact acR X Z hx hc k
end L2
namespace L2
open PySem PySem.Spec PyProof.Rows
section
variable {X:Cx}{es:List Expr}{n k:Nat}{t:St->Hp->Prop}{pos:Pos}
end
noncomputable def dg (x:Str):List Key:=[Sum.inr x]
theorem Ri (x y:Str):cJ (dg x) (dg y)=decide (x.cps.toList<y.cps.toList):=by
 unfold dg
 rw[qX]
 by_cases e:(Sum.inr x:Key)=Sum.inr y
 . rw[if_pos e]
   have e:=Sum.inr.inj e
   subst e
   have h:¬x.cps.toList<x.cps.toList:=List.lt_irrefl _
   rw[decide_eq_false h]
   rfl
 . rw[if_neg e]
   rfl
theorem Dk {ss:List Str}{us:List Value}(r:Vals (ss.map V.str) us){i:Nat}(hi:i<us.length):∃x t,us.getD i Value.none=.str x t/\(ss.map dg).getD i []=dg x:=by
 have hl:=r.length
 rw[List.length_map] at hl
 have h1:(ss.map V.str)[i]? =some (V.str (ss[i]'(by omega))):=by rw[List.getElem?_map,List.getElem?_eq_getElem (by omega)];rfl
 obtain⟨u,e1,t,e2⟩:=r.get h1
 subst e2
 refine⟨ss[i]'(by omega),t,by rw[List.getD_eq_getElem?_getD,e1];rfl,?_⟩
 rw[List.getD_eq_getElem?_getD,List.getElem?_map,List.getElem?_eq_getElem (by omega)]
 rfl
theorem acS {prog:Program}{w:World}{s:Shared}{A:Around}{ss:List Str}{us:List Value}(r:Vals (ss.map V.str) us):Asks prog w A s us (O:=yG) (λi=>(ss.map dg).getD i []):=by
 intro h2
 refine W.kas_kind (T:=.type "str") h2 (λv hv=>?_) rfl rfl ⟨rfl,λi j C hi hj q=>?_⟩
 . obtain⟨i,hi,e⟩:=List.getElem_of_mem hv
   obtain⟨x,t,e1,_⟩:=Dk r hi
   rw[List.getD_eq_getElem?_getD,List.getElem?_eq_getElem hi] at e1
   have e1:us[i]=.str x t:=e1
   rw[<-e,e1]
   exact W.Looks.of_pure rfl
 . unfold W.kas_ask
   obtain⟨x,t,e1,e2⟩:=Dk r hi
   obtain⟨y,u,e3,e4⟩:=Dk r hj
   rw[e1,e3]
   refine W.kas_lt_str ?_
   have q:C (cJ ((ss.map dg).getD i []) ((ss.map dg).getD j [])) s:=q
   rw[e2,e4,Ri] at q
   exact q
noncomputable def Dl (K:PySem.W.Frag) (P:Addr) (lp:Pos) (qual:Str) (te:TE) (σ:St) (Q:VK):VK:=λx H1=>∃a xs,x=.ref a/\aq K H1 a xs/\xs.length<64/\cg P lp qual H1/\
 ∀c' H2,qU P lp qual c' H2->(∀b o,b≠P->H1 b=some o->H2 b=some o)->
 ∃W:List V->Hp->Prop,W [] H2/\(∀ks H3,W ks H3->qU P lp qual c' H3)/\(∀ks H3 y,W ks H3->xs[ks.length]? =some y->te (some y::σ) H3 λk H4=>W (ks++[k]) H4)/\
 ∀ks H3,W ks H3->ks.length=xs.length->∃ss:List Str,ks=ss.map V.str/\∀p:List Nat,p.Perm (List.range xs.length)->(p.map λi=>(ss.map dg).getD i []).Pairwise lU->∀D,H3 D=none->Q (.ref D) (upd H3 D (.lst (p.map λi=>xs.getD i .non)))
noncomputable def acT (K:W.Frag) (P:Addr) (lp:Pos) (qual:Str) (tl te:TE):TE:=λσ H Q=>tl σ H (Dl K P lp qual te σ Q)
section
variable {X:Cx}
theorem acU {x:Str}{N':List Str}{l body:Expr}{params:Arguments}{scope:Scope}{lp kp p pos:Pos}{qual:Str}{c P:Addr}{tl te:TE}{k:Nat}(hg:Gl X "sorted")(hm:X.mg "sorted"=none)(hv:bootBuiltins "sorted"=some (.builtin "sorted"))(hr:cP k X.A)(hq:X.env.qual++"<lambda>"=qual)(hcode:X.env.code=.ref c)(C:PySem.W.CodeHd X.base c P)
 (B:BM X.mg X.base) (S:su X x N' scope) (hdef:defaultsOf params X.env=([],[])) (hb:∀(cl:List (Str × Addr)) (pm:Value) (c':Addr) (ctv u:Value),bindArgs (PySem.W.kla_fn "<lambda>" qual params body scope cl pm (.ref c') ctv) ⟨[u],[]⟩=pure [(x,u)])
 (hl:PE X l tl) (he:∀(cl:List (Str × Addr)) (f c':Addr) (s:Shared) (H:Hp),PE (yE X x N' scope cl qual f c' s H) body te) (hs:starEach [l] X.env=[(false,eval l X.env)]:=by rfl):
 PE X (.Call (.Name "sorted" p) [l] [⟨some "key",.Lambda params body scope lp,kp⟩] pos) (acT X.K P lp qual tl te):=by
 intro pins s σ H Q I h
 refine wpAny_Call_Name_kw (oA I hg hm hv ?_)
 have ha:PA X [l] (gF tl jG):=aj hl ao (by rw[hs];rfl)
 refine callWith_kw (aO (ha pos pins s σ H (λvs H1=>match vs with|[x]=>Dl X.K P lp qual te σ Q x H1|_=>False) I h) λus s1 ⟨vs,H1,I1,r1,q1⟩=>?_) (by rw[hs];rfl) (by rw[hs];rfl)
 obtain⟨x',rfl⟩:∃x',vs=[x']:=by
  match vs,q1 with
  |[x'],_=>exact⟨x',rfl⟩
 have q1:Dl X.K P lp qual te σ Q x' H1:=q1
 obtain⟨a,xs,rfl,oO,h64,T,cont⟩:=q1
 obtain⟨u,rfl,ru⟩:=vals1 r1
 cases ru
 show wpAny _ _ (evalAll [do let v <-eval (.Lambda params body scope lp) X.env;standAt pos;pure v]) _ _ s1
 obtain⟨cl,hclos,hsub,hget⟩:=Cu (scope:=scope) (env:=X.env) λy hy hf=>I1.ok.has y.1 (S.free y hy hf)
 refine wpAny_evalAll_cons (wpAny_bind (PySem.W.kla_eval hdef ?_))
 rw[hq]
 refine ace I1 hcode C B T hclos λf c' pm ctv H2 s2 I2 L2' mono=>?_
 refine wpAny_bind (wpAny_standAt (wpAny_pure (wpAny_evalAll_nil ?_)))
 show wpAny _ _ (call (.builtin "sorted") [.ref a] [(Str.ofString "key",.ref f)]) _ _ s2
 obtain⟨W,w0,wL,wt,wf⟩:=cont c' H2 L2' mono
 have hPt:∃ps,H1 P=some (.dI ps):=by
  rcases T with e|⟨c₂,e,_⟩
  . exact⟨_,e⟩
  . exact⟨_,e⟩
 have hq2:aq X.K H2 a xs:=by
  obtain⟨ps,hP⟩:=hPt
  rcases oO with(z|⟨o,z⟩)|z
  . exact .inl (.inl (mono a _ (jV z hP (by intro z;cases z)) z))
  . exact .inl (.inr ⟨o,mono a _ (jV z hP (by intro z;cases z)) z⟩)
  . exact .inr z
 refine aO (acn (Q:=Q) (W:=W) I2 hq2 h64 w0 (λpl s' H' ks y u J wk hy ry=>?_) λpl s' H' ks us J wk hlen rk=>?_) λr s' ⟨v,H',J,rv,q⟩=>⟨v,H',J.oJ,rv,q⟩
 . exact acf J S hr.hd hr.depth hsub hget (List.mem_append_left _ (List.mem_append_right _ List.mem_cons_self)) (wL ks H' wk).2 (hb cl pm c' ctv) ry (he cl f c') (wt ks H' y wk hy)
 . obtain⟨ss,k1,k3⟩:=wf ks H' wk hlen
   subst k1
   exact⟨yG,_,acS rk,λp p1 p2 D hD=>k3 p p1 p2 D hD⟩
end
variable {P:Program}{w:World}{K:W.Frag}{mg:Str->Option Value}{base:Heap}
section
variable {X:Cx}
noncomputable def acW (K:W.Frag) (n:Nat):R2:=λx y H Q=>(x=.non/\(∃b ys,y=.ref b/\aN K H b ys)/\Q (.bl false) H)\/Q_ K n x y H Q
theorem Rj {n:Nat}(hu:X.A.units+1+n<cLine):dJ X (compareOp .Eq) (acW X.K n):=by
 intro pins s σ H x y v u Q I rx ry h
 rcases h with⟨rfl,⟨b,ys,rfl,hb⟩,q⟩|h
 . cases rx
   cases ry
   obtain⟨its,r1,p1,_⟩:=I.tuple hb
   exact SeqAt.RcAt.none_tuple p1 (by omega) _ _ _ _ ⟨.bl false,H,I,rfl,q⟩
 . exact Di hu pins s σ H x y v u Q I rx ry h
end
theorem jZ.okL {x qual:Str}{st:Stmt}{f c:Addr}{fd:FuncData}{N ps:List Str}{k:Nat}{sp:Sp}(F:jZ K x qual st f fd)(hc:fd.code=.ref c)(S:b_ N ps (aM st))(len:∀vs H Q E,sp vs H Q E->vs.length=ps.length)
 (hbody:∀(A:Around) (outer:List Env) (s:Shared) (H:Hp) (vs:List V) (Q:VK) (E:XK),cP k (A.deeper (envOfC qual (aM st) s.heap.objs.size f (.ref c)))->sp vs H Q E->
   ∃t,gP (lM aP P w K mg base N qual (aM st) f (.ref c) A outer s H E).mK (bG st) t/\t { nx:=λ_ H'=>Q .non H',rt:=Q } (start N vs) H):aH P w K mg base aP (k+1) f fd ps sp:=by
 obtain⟨oc,od,kV,doc,pm,an,cdv,ct,osl,rfl,lk,hcd⟩:=F.ex
 have hc:cdv=.ref c:=hc
 subst hc
 refine BZ lk hcd S len λA outer s H vs Q E hr hsp=>?_
 obtain⟨t,h,q⟩:=hbody A outer s H vs Q E hr hsp
 exact⟨t,h.mK,q⟩
noncomputable def yK (tabs:List Addr) (H:Hp):Prop:=∀b,H b=none\/(∃o xs,H b=some (.iB o (.lst xs)))\/(b∈tabs/\H b=some (.dI #[]))
theorem acY {P:Program}{w:World}{K:W.Frag}{mg mb:Str->Option Value}{CX:jw}{k:Nat}{fa a:Addr}{fd:FuncData}{x:Str}{sp:Sp}{s₁:Shared}{vs:List Value}{ns:List Int}{tabs:List (Addr × Addr)}
 (KX:K.In s₁.heap) (hT:W.TabsAt tabs s₁.heap) (vB:W.noTabs K=true) (hbm:BM mg s₁.heap) (hns:s₁.heap.Ns mainGlobals mg) (hb:s₁.heap.Ns builtinsNs mb) (hbb:∀x:Str,x≠"__name__"->mb x=bootBuiltins x) (hlim:s₁.heap.NoLimit) (hg:s₁.gens=#[])
 (ha:s₁.heap.get? a=some { cls:=.type "list",data:=.seq vs.toArray }) (hi:IntsAre vs ns) (hl:ns.length<=sizeLine) (hr:cP k callerA)
 (F:∀base:Heap,K.In base->base.Ns mainGlobals mg->BM mg base->aH P w K mg base CX k fa fd [x] sp) (hbind:∀(s:Shared) (u:Value),BindsTo s fd ⟨[u],[]⟩ [(x,u)])
 (hsp:∀H:Hp,yK (tabs.map (·.2)) H->(∀q∈tabs,H q.2=some (.dI #[]))->aq K H a (ns.map V.int)->sp [.ref a] H (λv _=>v=.bl true) λ_ _ _=>False)
 (hCX:∀H e s',CX [] H s₁ (λ_ _ _=>False) e s'->False):
 codeAny (model P w) callerA (.call (.ref fa) ⟨[.ref a],[]⟩) (λr s'=>r=.ok (.ret (.bool true))/\OldK s₁.heap s'.heap/\s'.os=s₁.os/\AllBare s'.gens) s₁:=by
 have rv:=Qj hi
 have lenV:=hi.length
 have sG:∀b,b∈tabs.map (·.2)->s₁.heap.get? b=some (W.tabObj #[]):=λb hm=>by
  obtain⟨q,hq,rfl⟩:=List.mem_map.mp hm
  exact(hT q hq).2
 have Rk:a ∉ tabs.map (·.2):=λhm=>by
  have:=sG a hm
  rw[ha] at this;cases this
 have core:∀H:Hp,yK (tabs.map (·.2)) H->(∀q∈tabs,H q.2=some (.dI #[]))->aq K H a (ns.map V.int)->cF P w H s₁.heap->(∀b,H b≠none->b=a\/b∈tabs.map (·.2))->(H a≠none->K.lookup a=none)->
  codeAny (model P w) callerA (.call (.ref fa) ⟨[.ref a],[]⟩) (λr s'=>r=.ok (.ret (.bool true))/\OldK s₁.heap s'.heap/\s'.os=s₁.os/\AllBare s'.gens) s₁:=by
  intro H hO hPt hS hok hA hK
  have Dp:∀{b:Addr} {o:Obj},s₁.heap.get? b=some o->H b=none->(lE s₁.heap H).get? b=some o:=λe n=>ZS e n
  have other:∀{b:Addr} {o:Obj},s₁.heap.get? b=some o->(∀us n,o.data≠ .seq us n)->(∀us,o.data≠ .fields us)->H b=none:=λ{b o} e d1 d2=>by
   cases q:H b with
   |none=>rfl
   |some u=>
    rcases hA b (by rw[q];simp) with e'|e'
    . subst e'
      rw[ha] at e;cases e
      exact absurd rfl (d1 _ _)
    . rw[sG b e'] at e;cases e
      exact absurd rfl (d2 _)
  have yL:∀{b:Addr} {m:Str->Option Value},s₁.heap.Ns b m->(lE s₁.heap H).Ns b m:=λ{b m} ⟨o,es,ep,e,d,r⟩=>⟨o,es,ep,Dp e (other e (by rw[d];intro us n z;cases z) (by rw[d];intro us z;cases z)),d,r⟩
  have Rm:K.In (lE s₁.heap H):=λb o e=>Dp (KX b o e) (by
   cases q:H b with
   |none=>rfl
   |some u=>
    rcases hA b (by rw[q];simp) with e'|e'
    . subst e'
      rw[hK (by rw[q];simp)] at e;cases e
    . have e2:=KX b o e
      rw[sG b e'] at e2;cases e2
      have:=List.all_eq_true.mp vB _ (W.mem_of_lookupK e)
      simp at this)
  have hM:Mod K mg (lE s₁.heap H):=⟨Rm,yL hns,⟨mb,yL hb,hbb⟩,let⟨mc,h1,h2⟩:=hlim;⟨mc,yL h1,h2⟩⟩
  have vC:BM mg (lE s₁.heap H):=by
   obtain⟨bm,o,b1,b2,b3,b4,b5,b6,b7⟩:=hbm
   exact⟨bm,o,b1,b2,b3,Dp b4 (other b4 (by rw[b7];intro us n z;cases z) (by rw[b7];intro us z;cases z)),b5,b6,b7⟩
  have e0:qM P w K mg (lE s₁.heap H) callerA [] s₁ H:=⟨rfl,hM,λb o e=>ZV e,Nat.le_of_eq (ZR _ _),trivial,λb hb=>absurd (show b∈([]:List Addr) from hb) (by simp),hok,.of_eq hg⟩
  refine codeAny_mono ((F _ Rm (yL hns) vC).run callerA [] s₁ H ⟨[.ref a],[]⟩ [.ref a] [.ref a] _ _ hr e0 (hbind s₁ (.ref a)) (.cons rfl .nil) (hsp H hO hPt hS)) λr s' h=>?_
  cases r with
  |error e=>exact(hCX H e s' h).elim
  |ok fl=>
   cases fl with
   |next=>exact False.elim h
   |brk=>exact False.elim h
   |cont=>exact False.elim h
   |ret u=>
    obtain⟨v,H',os,bare,un,hok',r',q⟩:=h
    have q':v=.bl true:=q
    subst q'
    obtain rfl:u=Value.bool true:=r'
    have grown:∀b,b∈tabs.map (·.2)->∃ps,s'.heap.get? b=some (W.tabObj ps):=λb hm=>by
     obtain⟨q,hq,rfl⟩:=List.mem_map.mp hm
     obtain⟨more,e⟩:=un.jh _ _ (hPt q hq)
     exact⟨_,hok' _ _ e⟩
    have keep:∀b o,b ∉ tabs.map (·.2)->s₁.heap.get? b=some o->s'.heap.get? b=some o:=λb o hb e=>by
     cases q:H b with
     |none=>exact un.keep b o e q (by intro z;exact absurd (show b∈([]:List Addr) from z) (by simp)) (by simp)
     |some u=>
      rcases hO b with z|⟨ob,xs,z⟩|⟨z,_⟩
      . rw[q] at z;cases z
      . have z2:=un.jg b ob _ z
        obtain⟨e1,_⟩:=hok b _ z
        obtain⟨e2,_⟩:=hok' b _ z2
        rw[e] at e1;cases e1
        exact e2
      . exact absurd z hb
    refine⟨rfl,⟨λb o e=>?_,λb o e=>?_⟩,os,bare⟩
    . by_cases hb:b∈tabs.map (·.2)
      . obtain⟨ps,hP⟩:=grown b hb
        have e2:=sG b hb
        rw[e] at e2;cases e2
        obtain⟨q,hq,rfl⟩:=List.mem_map.mp hb
        exact .inr (.inl ⟨((hT q hq).1.tab (hT q hq).2).isCodeTable,rfl,#[],ps,rfl,by rw[Array.empty_append];exact hP⟩)
      . exact .inl (keep b o hb e)
    . by_cases hb:b∈tabs.map (·.2)
      . obtain⟨ps,hP⟩:=grown b hb
        exact⟨_,hP⟩
      . exact⟨o,keep b o hb e⟩
 cases hk:K.lookup a with
 |some o=>
  have e:=KX a o hk
  rw[ha] at e
  cases e
  refine core (λb=>if b∈tabs.map (·.2) then some (.dI #[]) else none) (λb=>?_) (λq hq=>if_pos (List.mem_map_of_mem hq)) (.inr ⟨_,vs.toArray,_,hk,rfl,rfl,rfl,by rw[List.size_toArray,lenV];exact hl,by simpa using rv⟩) (λb u z=>?_) (λb z=>?_) λz=>absurd (if_neg Rk) z
  . by_cases hb:b∈tabs.map (·.2)
    . exact .inr (.inr ⟨hb,if_pos hb⟩)
    . exact .inl (if_neg hb)
  . by_cases hb:b∈tabs.map (·.2)
    . have z':=(if_pos hb).symm.trans z
      cases z'
      exact sG b hb
    . have z':=(if_neg hb).symm.trans z
      cases z'
  . by_cases hb:b∈tabs.map (·.2)
    . exact .inr hb
    . exact absurd (if_neg hb) z
 |none=>
  refine core (λb=>if b∈tabs.map (·.2) then some (.dI #[]) else if b=a then some (.iB { cls:=.type "list",data:=.seq vs.toArray } (.lst (ns.map V.int))) else none) (λb=>?_) (λq hq=>if_pos (List.mem_map_of_mem hq))
   (.inl (.inr ⟨{ cls:=.type "list",data:=.seq vs.toArray },(if_neg Rk).trans (if_pos rfl)⟩)) (λb u z=>?_) (λb z=>?_) λ_=>hk
  . by_cases hb:b∈tabs.map (·.2)
    . exact .inr (.inr ⟨hb,if_pos hb⟩)
    . by_cases hba:b=a
      . exact .inr (.inl ⟨_,_,(if_neg hb).trans (if_pos hba)⟩)
      . exact .inl ((if_neg hb).trans (if_neg hba))
  . by_cases hb:b∈tabs.map (·.2)
    . have z':=(if_pos hb).symm.trans z
      cases z'
      exact sG b hb
    . have z:=(if_neg hb).symm.trans z
      by_cases hba:b=a
      . have z':=(if_pos hba).symm.trans z
        cases z'
        subst hba
        exact⟨ha,by rw[List.length_map];exact hl,vs,_,rv,ha⟩
      . have z':=(if_neg hba).symm.trans z
        cases z'
  . by_cases hb:b∈tabs.map (·.2)
    . exact .inr hb
    . by_cases hba:b=a
      . exact .inl hba
      . exact absurd ((if_neg hb).trans (if_neg hba)) z
theorem ac0 {l:W.OpenLaw}{n k:Nat}{q:Program}{loose:List Str}{XP:(Str->Option Value)->Heap->Prop}{YP:World->Heap->Prop}{d:DefRec}{K:Params->W.Frag}{sp:World->List (Addr × Addr)->Sp}{x:Str}{names:List Str}
 (hn:l.most=some n) (hn2:n<=sizeLine) (hdf:d.params.defaults=[]) (hr:cP k callerA)
 (hY:∀(w:World) (h:Heap),YP w h->(K w.params).In h) (vB:∀w:World,W.noTabs (K w.params)=true)
 (tb:∀w:World,∃tabs:List (Addr × Addr),(∀q'∈tabs,∃y∈names,W.tabIn (K w.params) y=some q')/\
   (∀(mg:Str->Option Value) (fa:Addr) (h:Heap),(K w.params).In h->h.Ns mainGlobals mg->mg d.name=some (.ref fa)->
   ∃fd:FuncData,(∀(s:Shared) (u:Value),BindsTo s fd ⟨[u],[]⟩ [(x,u)])/\
    ∀base:Heap,(K w.params).In base->base.Ns mainGlobals mg->BM mg base->aH l.prog w (K w.params) mg base aP k fa fd [x] (sp w tabs)))
 (hrec:∀y∈names,∃d',(recsOf q).find? (λe=>e.name == y)=some d')
 (hsp:∀(w:World) (tabs:List (Addr × Addr)) (H:Hp) (a:Addr) (ns:List Int),ns.length<=n->yK (tabs.map (·.2)) H->(∀q∈tabs,H q.2=some (.dI #[]))->aq (K w.params) H a (ns.map V.int)->sp w tabs [.ref a] H (λv _=>v=.bl true) λ_ _ _=>False):
 W.WalkO q loose XP YP l.row.toRowW d [] (λf vs=>PySem.call f vs):=by
 refine Qi.abH hn hdf λw s₀ s₁ mg mb fa o pm cd doc a vs ns G Y ho hd hcd hmg hobj hints hlen hg=>?_
 have KX:=hY w _ Y
 obtain⟨tabs,ht,F⟩:=tb w
 obtain⟨fd,hb,hF⟩:=F mg fa _ KX G.T.g hmg
 have hT:W.TabsAt tabs s₁.heap:=λq' hq=>by
  obtain⟨y,hy,hty⟩:=ht q' hq
  obtain⟨d',hd'⟩:=hrec y hy
  exact W.tab_of G.T KX hd' hty
 have hbm:BM mg s₁.heap:=by
  obtain⟨bm,ob,b1,b2,b3,b4,b5,b6⟩:=G.T.bmain
  refine⟨bm,ob,b1,b2,λz=>?_,b3,b4,b5,b6⟩
  obtain⟨o',es,ep,e,hd,_⟩:=G.T.g
  rw[z,e] at b3;cases b3
  rw[hd] at b6;cases b6
 exact acY KX hT (vB w) hbm G.T.g G.T.b G.T.builtins G.T.nolimit hg hobj hints (Nat.le_trans hlen hn2) hr hF hb (λH hO hP hS=>hsp w tabs H a ns hlen hO hP hS) λH e s' h=>h.elim
end L2
namespace Pb
open PySem L2 PyProof.Rows
mutual
inductive Kd where
 |num
 |bW
 |gb (fs:Fs)
 |rows (key by_:Str) (fs:Fs)
 |tree (k:Kd)
 |jq (fs:Fs)
inductive Fs where
 |nil
 |cons (x:Str) (k:Kd) (r:Fs)
end
mutual
inductive D where
 |int (z:Int)
 |str (x:Str)
 |tup (xs:Ds)
 |lst (xs:Ds)
 |dct (m:Ds)
inductive Ds where
 |nil
 |cons (x:Str) (d:D) (r:Ds)
end
mutual
noncomputable def Kd.dep:Kd->Nat
 | .num=>1
 | .bW=>1
 | .gb fs=>fs.dep+1
 | .rows _ _ fs=>fs.dep+1
 | .tree k=>k.dep+1
 | .jq fs=>fs.dep+1
noncomputable def Fs.dep:Fs->Nat
 | .nil=>0
 | .cons _ k r=>max k.dep r.dep
end
mutual
noncomputable def D.dep:D->Nat
 | .int _=>1
 | .str _=>1
 | .tup xs=>xs.dep+1
 | .lst xs=>xs.dep+1
 | .dct m=>m.dep+1
noncomputable def Ds.dep:Ds->Nat
 | .nil=>0
 | .cons _ d r=>max d.dep r.dep
end
theorem Kd.Dq (k:Kd):1<=k.dep:=by cases k <;> simp[Kd.dep]
theorem D.Dq (d:D):1<=d.dep:=by cases d <;> simp[D.dep]
noncomputable def Fs.names:Fs->List Str
 | .nil=>[]
 | .cons x _ r=>x::r.names
noncomputable def Fs.get:Fs->Str->Option Kd
 | .nil,_=>none
 | .cons y k r,x=>if x=y then some k else r.get x
noncomputable def Fs.at:Fs->Nat->Option (Str × Kd)
 | .nil,_=>none
 | .cons x k _,0=>some (x,k)
 | .cons _ _ r,i+1=>r.at i
noncomputable def Fs.snoc:Fs->Str->Kd->Fs
 | .nil,x,k=>.cons x k .nil
 | .cons y q r,x,k=>.cons y q (r.snoc x k)
noncomputable def Fs.take:Fs->Nat->Fs
 | .nil,_=>.nil
 | .cons _ _ _,0=>.nil
 | .cons x k r,i+1=>.cons x k (r.take i)
theorem Fs.Rn:∀(fs:Fs) (i:Nat),fs.names[i]? =(fs.at i).map (·.1)
 | .nil,i=>by simp[Fs.names,Fs.at]
 | .cons x k r,0=>by simp[Fs.names,Fs.at]
 | .cons x k r,i+1=>by
   show(x::r.names)[i+1]? =_
   rw[List.getElem?_cons_succ,Fs.Rn r i];rfl
theorem Fs.vG:∀{fs:Fs}{i:Nat}{x:Str}{k:Kd},fs.at i=some (x,k)->k.dep<=fs.dep
 | .nil,_,_,_,h=>by cases h
 | .cons x k r,0,_,_,h=>by
   cases h
   exact Nat.le_max_left _ _
 | .cons x k r,i+1,_,_,h=>Nat.le_trans (Fs.vG (fs:=r) (i:=i) h) (Nat.le_max_right _ _)
theorem Fs.take_succ:∀{fs:Fs}{i:Nat}{x:Str}{k:Kd},fs.at i=some (x,k)->fs.take (i+1)=(fs.take i).snoc x k
 | .nil,_,_,_,h=>by cases h
 | .cons y q r,0,x,k,h=>by
   cases h
   cases r <;> rfl
 | .cons y q r,i+1,x,k,h=>by
   show Fs.cons y q (r.take (i+1))=Fs.cons y q ((r.take i).snoc x k)
   rw[Fs.take_succ (fs:=r) (i:=i) h]
theorem Fs.take_zero (fs:Fs):fs.take 0=.nil:=by cases fs <;> rfl
theorem Fs.take_all:∀(fs:Fs),fs.take fs.names.length=fs
 | .nil=>rfl
 | .cons x k r=>by
   show Fs.cons x k (r.take r.names.length)=_
   rw[Fs.take_all r]
noncomputable def fC:Kd->Prop
 | .num=>True
 | .bW=>True
 |_=>False
noncomputable def Fs.pl (fs:Fs) (x:Str):Prop:=∃k,fs.get x=some k/\fC k
mutual
noncomputable def Kd.W:Kd->Prop
 | .num=>True
 | .bW=>True
 | .gb fs=>fs.names.Nodup/\fs.names.length<=12/\fs.W
 | .rows key by_ fs=>fs.names.Nodup/\fs.names.length<=12/\fs.W/\fs.pl key/\(by_=""\/fs.pl by_)
 | .tree k=>k.W
 | .jq fs=>fs.names.Nodup/\fs.names.length<=12/\1<=fs.names.length/\fs.W
noncomputable def Fs.W:Fs->Prop
 | .nil=>True
 | .cons _ k r=>k.W/\r.W
end
theorem Fs.Ro:∀{fs:Fs}{i:Nat}{x:Str}{k:Kd},fs.W->fs.at i=some (x,k)->k.W
 | .nil,_,_,_,_,h=>by cases h
 | .cons x k r,0,_,_,w,h=>by
   unfold Fs.W at w
   cases h;exact w.1
 | .cons x k r,i+1,_,_,w,h=>by
   unfold Fs.W at w
   exact Fs.Ro (fs:=r) (i:=i) w.2 h
noncomputable def Ds.get:Ds->Str->Option D
 | .nil,_=>none
 | .cons y d r,x=>if x=y then some d else r.get x
noncomputable def keyOf (m:Ds) (x:Str):Key:=match m.get x with
 |some (.int z)=>.inl z
 |some (.str s)=>.inr s
 |_=>.inl 0
noncomputable def rankOf (key by_:Str) (m:Ds):List Key:=if by_="" then [keyOf m key] else [keyOf m by_,keyOf m key]
theorem ac1 {key by_:Str}{a b:Ds}(h:rankOf key by_ a=rankOf key by_ b):keyOf a key=keyOf b key:=by
 unfold rankOf at h
 split at h
 . exact(List.cons.inj h).1
 . exact(List.cons.inj (List.cons.inj h).2).1
noncomputable def Rp (key by_:Str) (a b:Ds):Prop:=cJ (rankOf key by_ a) (rankOf key by_ b)=true
noncomputable def sH (key by_:Str) (a b:Ds):Prop:=lU (rankOf key by_ a) (rankOf key by_ b)
noncomputable def ins (key by_:Str) (m:Ds):List Ds->List Ds
 |[]=>[m]
 |y::q=>if cJ (rankOf key by_ y) (rankOf key by_ m)=true then y::ins key by_ m q else m::y::q
noncomputable def vH (key by_:Str):List Ds->List Ds
 |[]=>[]
 |m::r=>ins key by_ m (vH key by_ r)
theorem Dt (key by_:Str)(m:Ds):∀l:List Ds,(ins key by_ m l).Perm (m::l)
 |[]=>List.Perm.refl _
 |y::q=>by
  unfold ins
  split
  . exact((Dt key by_ m q).cons y).trans (List.Perm.swap m y q)
  . exact List.Perm.refl _
theorem qY (key by_:Str):∀l:List Ds,(vH key by_ l).Perm l
 |[]=>List.Perm.refl _
 |m::r=>(Dt key by_ m _).trans ((qY key by_ r).cons m)
theorem ac2 {a b:List Key}(h:cJ a b=true):lU a b:=KeyOrd.kle_of_klt (O:=yG) h
theorem ac3 {a b c:List Key}(h1:lU a b)(h2:lU b c):lU a c:=KeyOrd.kle_trans (O:=yG) h1 h2
theorem Rq (key by_:Str)(m:Ds):∀{l:List Ds},l.Pairwise (sH key by_)->(ins key by_ m l).Pairwise (sH key by_)
 |[],_=>List.pairwise_singleton _ _
 |y::q,h=>by
  obtain⟨h1,h2⟩:=List.pairwise_cons.mp h
  unfold ins
  by_cases c:cJ (rankOf key by_ y) (rankOf key by_ m)=true
  . rw[if_pos c]
    refine List.pairwise_cons.mpr ⟨λz hz=>?_,Rq key by_ m h2⟩
    rcases List.mem_cons.mp ((Dt key by_ m q).mem_iff.mp hz) with e|e
    . rw[e];exact ac2 c
    . exact h1 z e
  . rw[if_neg c]
    have c':sH key by_ m y:=by unfold sH lU;simpa using c
    refine List.pairwise_cons.mpr ⟨λz hz=>?_,h⟩
    rcases List.mem_cons.mp hz with e|e
    . rw[e];exact c'
    . exact ac3 c' (h1 z e)
theorem Rr (key by_:Str):∀l:List Ds,(vH key by_ l).Pairwise (sH key by_)
 |[]=>List.Pairwise.nil
 |m::r=>Rq key by_ m (Rr key by_ r)
theorem ac4 {key by_:Str}{l:List Ds}(h:l.Pairwise (sH key by_))(nd:(l.map λm=>keyOf m key).Nodup):l.Pairwise (Rp key by_):=by
 have nd':l.Pairwise λa b=>keyOf a key≠keyOf b key:=List.pairwise_map.mp nd
 refine(h.and nd').imp λ{a b} ⟨h1,h2⟩=>?_
 rcases vq (rankOf key by_ a) (rankOf key by_ b) with q|q|q
 . exact q
 . exact absurd (ac1 q) h2
 . have h1:cJ (rankOf key by_ b) (rankOf key by_ a)=false:=h1
   rw[h1] at q;cases q
noncomputable def j4:List Ds->Ds
 |[]=>.nil
 |m::r=>.cons "" (.dct m) (j4 r)
noncomputable abbrev pairD (a b:D):D:=.tup (.cons "" a (.cons "" b .nil))
mutual
noncomputable def Tree (P:D->Prop):D->Prop
 | .tup xs=>Du P xs
 |_=>False
noncomputable def Du (P:D->Prop):Ds->Prop
 | .cons _ t (.cons _ (.lst as) .nil)=>P t/\sI P as
 |_=>False
noncomputable def sI (P:D->Prop):Ds->Prop
 | .nil=>True
 | .cons _ d r=>Tree P d/\sI P r
end
mutual
noncomputable def fG:Kd->D->Prop
 | .num,d=>∃z,d=.int z
 | .bW,d=>∃x,d=.str x
 | .gb fs,d=>∃m,d=.dct m/\qZ fs m
 | .rows key by_ fs,d=>∃rs:List Ds,d=.lst (j4 rs)/\(∀m∈rs,qZ fs m)/\rs.Pairwise (Rp key by_)/\(rs.map λm=>keyOf m key).Nodup
 | .tree k,d=>Tree (fG k) d
 | .jq fs,d=>∃x v,d=pairD (.str x) v/\oR fs x v
noncomputable def qZ:Fs->Ds->Prop
 | .nil,m=>m=.nil
 | .cons x k r,m=>∃d q,m=.cons x d q/\fG k d/\qZ r q
noncomputable def oR:Fs->Str->D->Prop
 | .nil,_,_=>False
 | .cons y k r,x,v=>(x=y/\fG k v)\/(x≠y/\oR r x v)
end
theorem Rt:∀{fs:Fs}{x:Str}{v:D},oR fs x v->x∈fs.names
 | .nil,_,_,h=>by unfold oR at h;exact h.elim
 | .cons y k r,x,v,h=>by
   unfold oR at h
   rcases h with⟨e,_⟩|⟨_,h⟩
   . rw[e];exact List.mem_cons_self
   . exact List.mem_cons_of_mem _ (Rt h)
noncomputable def cellAt (ns:List Int) (n:Int):Int:=if 0<ns.length then ns.getD (n % (ns.length:Int)).toNat 0 else 0
noncomputable def nx (ns:List Int) (n:Int):Int:=
 ((cellAt ns n % 2147483647+n * n * 7919+11) * 48271 % 2147483647) * ((cellAt ns n % 2147483647+n * n * 7919+11) * 48271 % 2147483647) % 1999999973
theorem Dv (ns:List Int)(n:Int):0<=nx ns n:=Int.emod_nonneg _ (by decide)
theorem Dw (ns:List Int)(n:Int):nx ns n<1999999973:=Int.emod_lt_of_pos _ (by decide)
noncomputable def num (ns:List Int) (n:Int):Int:=
 if nx ns n % 3=0 then nx ns n / 3 % 7 - 3 else(cellAt ns n % 10 ^ 40+nx ns n * 10 ^ 29) % (2 * 10 ^ 40) - 10 ^ 40
noncomputable def jN:Str:=" !#$&'()*+,-./0123456789:;<=>?@ABCDEFGHIJKLMNOPQRSTUVWXYZ"++"[\\]^_`abcdefghijklmnopqrstuvwxyz{|}~"
noncomputable def sJ (m:Int):Nat->Str
 |0=>""
 |k+1=>sJ m k++⟨#[(jN.cps.toList.getD ((m / 145+(k:Int) * (k:Int) * (m / 7 % 3)) % 93).toNat 0)]⟩
noncomputable def bW (ns:List Int) (n:Int):Str:=sJ (nx ns n) (if nx ns n / 5 % 29=0 then 40 else(nx ns n % 5).toNat)
noncomputable def times (g:Int->D × Int):Nat->Int->Ds × Int
 |0,n=>(.nil,n)
 |m+1,n=>(.cons "" (g n).1 (times g m (g n).2).1,(times g m (g n).2).2)
noncomputable def dh (ns:List Int) (f:Nat->Int->D × Int):Nat->Nat->Int->D × Int
 |0,_,n=>(.int 0,n)
 |fu+1,room,n=>
  (pairD (f (room / 2) n).1 (.lst (times (dh ns f fu (room / 2)) (nx ns ((f (room / 2) n).2+1) % ((room:Int)+1)).toNat ((f (room / 2) n).2+1)).1),
    (times (dh ns f fu (room / 2)) (nx ns ((f (room / 2) n).2+1) % ((room:Int)+1)).toNat ((f (room / 2) n).2+1)).2)
noncomputable def ac5 (key:Str) (l:List Ds) (k:Key):Bool:=l.any λr=>decide (keyOf r key=k)
noncomputable def iI (g:Int->Ds × Int) (key:Str):Nat->List Ds->Int->List Ds × Int
 |0,acc,n=>(acc,n)
 |m+1,acc,n=>if ac5 key acc (keyOf (g n).1 key)=true then iI g key m acc (g n).2 else iI g key m (acc++[(g n).1]) (g n).2
mutual
noncomputable def val (ns:List Int):Kd->Nat->Int->D × Int
 | .num,_,n=>(.int (num ns (n+1)),n+1)
 | .bW,_,n=>(.str (bW ns (n+1)),n+1)
 | .gb fs,room,n=>(.dct (bY ns fs room n).1,(bY ns fs room n).2)
 | .rows key by_ fs,room,n=>
   (.lst (j4 (vH key by_ (iI (bY ns fs (room / 2)) key (nx ns (n+1) % ((room:Int)+1)).toNat [] (n+1)).1)),(iI (bY ns fs (room / 2)) key (nx ns (n+1) % ((room:Int)+1)).toNat [] (n+1)).2)
 | .tree k,room,n=>dh ns (val ns k) 4 room n
 | .jq fs,room,n=>gH ns fs (nx ns (n+1) % (fs.names.length:Int)).toNat room (n+1)
noncomputable def bY (ns:List Int):Fs->Nat->Int->Ds × Int
 | .nil,_,n=>(.nil,n)
 | .cons x k r,room,n=>(.cons x (val ns k room n).1 (bY ns r room (val ns k room n).2).1,(bY ns r room (val ns k room n).2).2)
noncomputable def gH (ns:List Int):Fs->Nat->Nat->Int->D × Int
 | .nil,_,_,n=>(.int 0,n)
 | .cons x k _,0,room,n=>(pairD (.str x) (val ns k room n).1,(val ns k room n).2)
 | .cons _ _ r,i+1,room,n=>gH ns r i room n
end
theorem Dy {g:Int->Ds × Int}{key:Str}:∀(m:Nat) (acc:List Ds) (n:Int),(acc.map λr=>keyOf r key).Nodup->((iI g key m acc n).1.map λr=>keyOf r key).Nodup
 |0,_,_,h=>h
 |m+1,acc,n,h=>by
  unfold iI
  split
  . exact Dy m acc _ h
  . rename_i c
    refine Dy m _ _ ?_
    rw[List.map_append]
    refine List.nodup_append.mpr ⟨h,by simp,λa ha b hb=>?_⟩
    have:b=keyOf (g n).1 key:=by simpa using hb
    rw[this]
    obtain⟨r,hr,e⟩:=List.mem_map.mp ha
    exact λe2=>c (List.any_eq_true.mpr ⟨r,hr,decide_eq_true (e.trans e2)⟩)
theorem vI {g:Int->Ds × Int}{key:Str}{R:Ds->Prop}(hg:∀n,R (g n).1):∀(m:Nat) (acc:List Ds) (n:Int),(∀r∈acc,R r)->∀r∈(iI g key m acc n).1,R r
 |0,_,_,h=>h
 |m+1,acc,n,h=>by
  unfold iI
  split
  . exact vI hg m acc _ h
  . refine vI hg m _ _ λr hr=>?_
    rcases List.mem_append.mp hr with q|q
    . exact h r q
    . have:r=(g n).1:=by simpa using q
      rw[this];exact hg n
theorem Ru {P:D->Prop}{g:Int->D × Int}(hg:∀n,Tree P (g n).1):∀(m:Nat) (n:Int),sI P (times g m n).1
 |0,_=>by unfold times sI;trivial
 |m+1,n=>by
  unfold times sI
  exact⟨hg n,Ru hg m _⟩
theorem Rv {ns:List Int}{P:D->Prop}{f:Nat->Int->D × Int}(hf:∀room n,room<8->P (f room n).1):∀(fu room:Nat) (n:Int),room<8->room<2 ^ fu->Tree P (dh ns f (fu+1) room n).1
 |0,room,n,_,h=>by
  have e:room=0:=by simpa using h
  subst e
  unfold dh
  have e0:(nx ns ((f (0 / 2) n).2+1) % (((0:Nat):Int)+1)).toNat=0:=by
   have:nx ns ((f (0 / 2) n).2+1) % (((0:Nat):Int)+1)=0:=by
    show _ % (1:Int)=0
    exact Int.emod_one _
   rw[this];rfl
  rw[e0]
  unfold Tree Du
  exact⟨hf _ _ (by decide),by unfold times sI;trivial⟩
 |fu+1,room,n,h8,h=>by
  have ih:=λm=>Rv (ns:=ns) hf fu (room / 2) m (by omega) (by rw[Nat.pow_succ] at h;omega)
  unfold dh
  unfold Tree Du
  exact⟨hf _ _ (by omega),Ru ih _ _⟩
mutual
theorem yM (ns:List Int):∀(k:Kd),k.W->∀(room:Nat) (n:Int),room<8->fG k (val ns k room n).1
 | .num,_,room,n,_=>by unfold val fG;exact⟨_,rfl⟩
 | .bW,_,room,n,_=>by unfold val fG;exact⟨_,rfl⟩
 | .gb fs,w,room,n,h=>by
   unfold Kd.W at w
   unfold val fG
   exact⟨_,rfl,DG ns fs w.2.2 room n h⟩
 | .rows key by_ fs,w,room,n,h=>by
   unfold Kd.W at w
   unfold val fG
   have nd:=Dy (g:=bY ns fs (room / 2)) (key:=key) (nx ns (n+1) % ((room:Int)+1)).toNat [] (n+1) List.nodup_nil
   refine⟨_,rfl,λm hm=>?_,?_,?_⟩
   . exact vI (R:=qZ fs) (λn=>DG ns fs w.2.2.1 (room / 2) n (by omega)) _ _ _ (λr hr=>absurd hr (by simp)) m ((qY key by_ _).mem_iff.mp hm)
   . exact ac4 (Rr key by_ _) (((qY key by_ _).map _).nodup_iff.mpr nd)
   . exact((qY key by_ _).map _).nodup_iff.mpr nd
 | .tree k,w,room,n,h=>by
   unfold Kd.W at w
   unfold val fG
   exact Rv (λroom n h=>yM ns k w room n h) 3 room n h (by simpa using h)
 | .jq fs,w,room,n,h=>by
   unfold Kd.W at w
   unfold val fG
   have hl:(nx ns (n+1) % (fs.names.length:Int)).toNat<fs.names.length:=by
    have:=Int.emod_lt_of_pos (nx ns (n+1)) (show(0:Int)<fs.names.length by omega)
    have:=Int.emod_nonneg (nx ns (n+1)) (show(fs.names.length:Int)≠0 by omega)
    omega
   exact Rw ns fs w.2.2.2 w.1 _ room _ h hl
theorem DG (ns:List Int):∀(fs:Fs),fs.W->∀(room:Nat) (n:Int),room<8->qZ fs (bY ns fs room n).1
 | .nil,_,_,_,_=>by unfold bY qZ;rfl
 | .cons x k r,w,room,n,h=>by
   unfold Fs.W at w
   unfold bY qZ
   exact⟨_,_,rfl,yM ns k w.1 room n h,DG ns r w.2 room _ h⟩
theorem Rw (ns:List Int):∀(fs:Fs),fs.W->fs.names.Nodup->∀(i room:Nat) (n:Int),room<8->i<fs.names.length->∃x v,(gH ns fs i room n).1=pairD (.str x) v/\oR fs x v
 | .nil,_,_,i,_,_,_,hi=>by simp[Fs.names] at hi
 | .cons x k r,w,nd,0,room,n,h,hi=>by
   unfold Fs.W at w
   unfold gH
   exact⟨x,_,rfl,by unfold oR;exact .inl ⟨rfl,yM ns k w.1 room n h⟩⟩
 | .cons x k r,w,nd,i+1,room,n,h,hi=>by
   unfold Fs.W at w
   unfold gH
   have nd:(x::r.names).Nodup:=nd
   obtain⟨n1,n2⟩:=List.nodup_cons.mp nd
   obtain⟨y,v,e,f⟩:=Rw ns r w.2 n2 i room n h (by simpa[Fs.names] using hi)
   refine⟨y,v,e,?_⟩
   unfold oR
   exact .inr ⟨λz=>n1 (by rw[<-z];exact Rt f),f⟩
end
mutual
noncomputable def Kd.dB:Kd->Nat
 | .num=>1
 | .bW=>1
 | .gb fs=>fs.dB+1
 | .rows _ _ fs=>fs.dB+2
 | .tree k=>k.dB+10
 | .jq fs=>fs.dB+2
noncomputable def Fs.dB:Fs->Nat
 | .nil=>0
 | .cons _ k r=>max k.dB r.dB
end
mutual
noncomputable def Kd.cB:Kd->Nat
 | .num=>1
 | .bW=>1
 | .gb fs=>fs.cB
 | .rows _ _ fs=>8 * fs.cB+1
 | .tree k=>(k.cB+1) * 585
 | .jq fs=>fs.cB+1
noncomputable def Fs.cB:Fs->Nat
 | .nil=>0
 | .cons _ k r=>k.cB+r.cB
end
theorem Rx:∀{l:List Ds}{n:Nat},(∀m∈l,m.dep<=n)->(j4 l).dep<=n+1
 |[],n,_=>by simp[j4,Ds.dep]
 |m::r,n,h=>by
  have h1:=h m List.mem_cons_self
  have h2:=Rx (l:=r) (n:=n) λx hx=>h x (List.mem_cons_of_mem _ hx)
  simp only[j4,Ds.dep,D.dep]
  omega
theorem Ry {g:Int->D × Int}{N:Nat}(hg:∀n,(g n).1.dep<=N):∀(m:Nat) (n:Int),(times g m n).1.dep<=N
 |0,_=>by simp[times,Ds.dep]
 |m+1,n=>by
  have h1:=hg n
  have h2:=Ry hg m (g n).2
  simp only[times,Ds.dep]
  omega
theorem Rz {ns:List Int}{f:Nat->Int->D × Int}{N:Nat}(h1:1<=N)(hf:∀room n,(f room n).1.dep<=N):∀(fu room:Nat) (n:Int),(dh ns f fu room n).1.dep<=N+2 * fu
 |0,_,_=>by simp[dh,D.dep];omega
 |fu+1,room,n=>by
  have a:=hf (room / 2) n
  have b:=Ry (g:=dh ns f fu (room / 2)) (N:=N+2 * fu) (λn=>Rz h1 hf fu (room / 2) n) (nx ns ((f (room / 2) n).2+1) % ((room:Int)+1)).toNat ((f (room / 2) n).2+1)
  simp only[dh,D.dep,Ds.dep]
  omega
theorem Kd.ac6 (k:Kd):1<=k.dB:=by cases k <;> simp[Kd.dB]
mutual
theorem yN (ns:List Int):∀(k:Kd) (room:Nat) (n:Int),(val ns k room n).1.dep<=k.dB
 | .num,_,_=>by simp[val,D.dep,Kd.dB]
 | .bW,_,_=>by simp[val,D.dep,Kd.dB]
 | .gb fs,room,n=>by
   have:=DK ns fs room n
   simp only[val,D.dep,Kd.dB];omega
 | .rows key by_ fs,room,n=>by
   have:=Rx (l:=vH key by_ (iI (bY ns fs (room / 2)) key (nx ns (n+1) % ((room:Int)+1)).toNat [] (n+1)).1) (n:=fs.dB) λm hm=>
    vI (R:=λm=>m.dep<=fs.dB) (λn=>DK ns fs (room / 2) n) _ _ _ (λr hr=>absurd hr (by simp)) m ((qY key by_ _).mem_iff.mp hm)
   simp only[val,D.dep,Kd.dB];omega
 | .tree k,room,n=>by
   have:=Rz (ns:=ns) (f:=val ns k) k.ac6 (λroom n=>yN ns k room n) 4 room n
   simp only[val,Kd.dB];omega
 | .jq fs,room,n=>by
   have:=RB ns fs (nx ns (n+1) % (fs.names.length:Int)).toNat room (n+1)
   simp only[val,Kd.dB];omega
theorem DK (ns:List Int):∀(fs:Fs) (room:Nat) (n:Int),(bY ns fs room n).1.dep<=fs.dB
 | .nil,_,_=>by simp[bY,Ds.dep]
 | .cons x k r,room,n=>by
   have a:=yN ns k room n
   have b:=DK ns r room (val ns k room n).2
   simp only[bY,Ds.dep,Fs.dB];omega
theorem RB (ns:List Int):∀(fs:Fs) (i room:Nat) (n:Int),(gH ns fs i room n).1.dep<=fs.dB+2
 | .nil,_,_,_=>by simp[gH,D.dep]
 | .cons x k r,0,room,n=>by
   have a:=yN ns k room n
   simp only[gH,D.dep,Ds.dep,Fs.dB];omega
 | .cons x k r,i+1,room,n=>by
   have a:=RB ns r i room n
   simp only[gH,Fs.dB];omega
end
theorem mod_le {a:Int}{room:Nat}(h:room<8):(a % ((room:Int)+1)).toNat<=room:=by
 have:=Int.emod_lt_of_pos a (show(0:Int)<(room:Int)+1 by omega)
 have:=Int.emod_nonneg a (show((room:Int)+1)≠0 by omega)
 omega
theorem DN {g:Int->D × Int}{N:Nat}(hg:∀n,n<=(g n).2/\(g n).2<=n+N):∀(m:Nat) (n:Int),n<=(times g m n).2/\(times g m n).2<=n+(m * N:Nat)
 |0,n=>by simp[times]
 |m+1,n=>by
  obtain⟨a1,a2⟩:=hg n
  obtain⟨b1,b2⟩:=DN hg m (g n).2
  have e:(m+1) * N=m * N+N:=Nat.succ_mul m N
  simp only[times]
  rw[e]
  omega
noncomputable def lV:Nat->Nat
 |0=>0
 |n+1=>8 * lV n+1
theorem sO {ns:List Int}{f:Nat->Int->D × Int}{N:Nat}(hf:∀room n,room<8->n<=(f room n).2/\(f room n).2<=n+N):∀(fu room:Nat) (n:Int),room<8->n<=(dh ns f fu room n).2/\(dh ns f fu room n).2<=n+((N+1) * lV fu:Nat)
 |0,_,n,_=>by simp[dh,lV]
 |fu+1,room,n,h=>by
  obtain⟨a1,a2⟩:=hf (room / 2) n (by omega)
  obtain⟨b1,b2⟩:=DN (g:=dh ns f fu (room / 2)) (N:=(N+1) * lV fu) (λn=>sO hf fu (room / 2) n (by omega)) (nx ns ((f (room / 2) n).2+1) % ((room:Int)+1)).toNat ((f (room / 2) n).2+1)
  have c:=mod_le (a:=nx ns ((f (room / 2) n).2+1)) h
  have d:(nx ns ((f (room / 2) n).2+1) % ((room:Int)+1)).toNat * ((N+1) * lV fu)<=8 * ((N+1) * lV fu):=Nat.mul_le_mul_right _ (by omega)
  have e:(N+1) * lV (fu+1)=8 * ((N+1) * lV fu)+(N+1):=by
   show(N+1) * (8 * lV fu+1)=_
   rw[Nat.mul_add,Nat.mul_left_comm,Nat.mul_one]
  simp only[dh]
  rw[e]
  omega
theorem DP {g:Int->Ds × Int}{key:Str}{N:Nat}(hg:∀n,n<=(g n).2/\(g n).2<=n+N):∀(m:Nat) (acc:List Ds) (n:Int),n<=(iI g key m acc n).2/\(iI g key m acc n).2<=n+(m * N:Nat)
 |0,_,n=>by simp[iI]
 |m+1,acc,n=>by
  obtain⟨a1,a2⟩:=hg n
  have e:(m+1) * N=m * N+N:=Nat.succ_mul m N
  unfold iI
  rw[e]
  split
  . obtain⟨b1,b2⟩:=DP (key:=key) hg m acc (g n).2
    omega
  . obtain⟨b1,b2⟩:=DP (key:=key) hg m (acc++[(g n).1]) (g n).2
    omega
mutual
theorem oU (ns:List Int):∀(k:Kd) (room:Nat) (n:Int),room<8->n<=(val ns k room n).2/\(val ns k room n).2<=n+k.cB
 | .num,_,_,_=>by simp only[val,Kd.cB];omega
 | .bW,_,_,_=>by simp only[val,Kd.cB];omega
 | .gb fs,room,n,h=>by
   have:=yO ns fs room n h
   simp only[val,Kd.cB];omega
 | .rows key by_ fs,room,n,h=>by
   obtain⟨a1,a2⟩:=DP (g:=bY ns fs (room / 2)) (key:=key) (N:=fs.cB) (λn=>yO ns fs (room / 2) n (by omega)) (nx ns (n+1) % ((room:Int)+1)).toNat [] (n+1)
   have c:=mod_le (a:=nx ns (n+1)) h
   have d:(nx ns (n+1) % ((room:Int)+1)).toNat * fs.cB<=8 * fs.cB:=Nat.mul_le_mul_right _ (by omega)
   simp only[val,Kd.cB];omega
 | .tree k,room,n,h=>by
   have:=sO (ns:=ns) (f:=val ns k) (N:=k.cB) (λroom n h=>oU ns k room n h) 4 room n h
   have e:lV 4=585:=rfl
   rw[e] at this
   simp only[val,Kd.cB];omega
 | .jq fs,room,n,h=>by
   have:=RD ns fs (nx ns (n+1) % (fs.names.length:Int)).toNat room (n+1) h
   simp only[val,Kd.cB];omega
theorem yO (ns:List Int):∀(fs:Fs) (room:Nat) (n:Int),room<8->n<=(bY ns fs room n).2/\(bY ns fs room n).2<=n+fs.cB
 | .nil,_,_,_=>by simp[bY,Fs.cB]
 | .cons x k r,room,n,h=>by
   have a:=oU ns k room n h
   have b:=yO ns r room (val ns k room n).2 h
   simp only[bY,Fs.cB];omega
theorem RD (ns:List Int):∀(fs:Fs) (i room:Nat) (n:Int),room<8->n<=(gH ns fs i room n).2/\(gH ns fs i room n).2<=n+fs.cB
 | .nil,_,_,_,_=>by simp[gH,Fs.cB]
 | .cons x k r,0,room,n,h=>by
   have a:=oU ns k room n h
   simp only[gH,Fs.cB];omega
 | .cons x k r,i+1,room,n,h=>by
   have a:=RD ns r i room n h
   simp only[gH,Fs.cB];omega
end
end Pb
namespace Pb
open PySem L2
mutual
noncomputable def KA (H:Hp):V->Kd->Prop
 |v,.num=>∃a,v=.ref a/\H a=some (.tup [.str "number"])
 |v,.bW=>∃a,v=.ref a/\H a=some (.tup [.str "word"])
 |v,.gb fs=>∃a b vs,v=.ref a/\H a=some (.tup [.str "record",.ref b])/\H b=some (.tup vs)/\FA H vs fs
 |v,.rows key by_ fs=>∃a b vs,v=.ref a/\H a=some (.tup [.str "rows",.str key,.str by_,.ref b])/\H b=some (.tup vs)/\FA H vs fs
 |v,.tree k=>∃a u,v=.ref a/\H a=some (.tup [.str "tree",u])/\KA H u k
 |v,.jq fs=>∃a b vs,v=.ref a/\H a=some (.tup [.str "either",.ref b])/\H b=some (.tup vs)/\FA H vs fs
noncomputable def FA (H:Hp):List V->Fs->Prop
 |vs,.nil=>vs=[]
 |vs,.cons x k r=>∃c u vr,vs=.ref c::vr/\H c=some (.tup [.str x,u])/\KA H u k/\FA H vr r
end
noncomputable def Tu (H H':Hp):Prop:=∀a xs,H a=some (.tup xs)->H' a=some (.tup xs)
theorem Tu.trans {H H1 H2:Hp}(a:Tu H H1)(b:Tu H1 H2):Tu H H2:=λc xs h=>b c xs (a c xs h)
theorem Tu.of {H H':Hp}(s:Same H H'):Tu H H':=λa xs h=>s a _ h
theorem Tu.wr {H:Hp}{p:Addr}{o:HO}(h:∀xs,H p≠some (.tup xs)):Tu H (upd H p o):=λa xs e=>by
 rw[au (λz=>h xs (by rw[<-z];exact e))];exact e
mutual
theorem KA.mono {H H':Hp}(t:Tu H H'):∀{v:V}(k:Kd),KA H v k->KA H' v k
 |v,.num,h=>by
  unfold KA at h ⊢
  obtain⟨a,e,q⟩:=h
  exact⟨a,e,t _ _ q⟩
 |v,.bW,h=>by
  unfold KA at h ⊢
  obtain⟨a,e,q⟩:=h
  exact⟨a,e,t _ _ q⟩
 |v,.gb fs,h=>by
  unfold KA at h ⊢
  obtain⟨a,b,vs,e,q1,q2,f⟩:=h
  exact⟨a,b,vs,e,t _ _ q1,t _ _ q2,FA.mono t fs f⟩
 |v,.rows key by_ fs,h=>by
  unfold KA at h ⊢
  obtain⟨a,b,vs,e,q1,q2,f⟩:=h
  exact⟨a,b,vs,e,t _ _ q1,t _ _ q2,FA.mono t fs f⟩
 |v,.tree k,h=>by
  unfold KA at h ⊢
  obtain⟨a,u,e,q,f⟩:=h
  exact⟨a,u,e,t _ _ q,KA.mono t k f⟩
 |v,.jq fs,h=>by
  unfold KA at h ⊢
  obtain⟨a,b,vs,e,q1,q2,f⟩:=h
  exact⟨a,b,vs,e,t _ _ q1,t _ _ q2,FA.mono t fs f⟩
theorem FA.mono {H H':Hp}(t:Tu H H'):∀{vs:List V}(fs:Fs),FA H vs fs->FA H' vs fs
 |vs,.nil,h=>by
  unfold FA at h ⊢
  exact h
 |vs,.cons x k r,h=>by
  unfold FA at h ⊢
  obtain⟨c,u,vr,e,q,f,g⟩:=h
  exact⟨c,u,vr,e,t _ _ q,KA.mono t k f,FA.mono t r g⟩
end
theorem FA.len {H:Hp}:∀{vs:List V}(fs:Fs),FA H vs fs->vs.length=fs.names.length
 |vs,.nil,h=>by
  unfold FA at h
  rw[h];rfl
 |vs,.cons x k r,h=>by
  unfold FA at h
  obtain⟨c,u,vr,e,_,_,g⟩:=h
  rw[e]
  show vr.length+1=r.names.length+1
  rw[FA.len r g]
theorem FA.get {H:Hp}:∀{vs:List V}(fs:Fs) {i:Nat}{v:V},FA H vs fs->vs[i]? =some v->∃c u x k,v=.ref c/\fs.at i=some (x,k)/\H c=some (.tup [.str x,u])/\KA H u k
 |vs,.nil,i,v,h,e=>by
  unfold FA at h
  rw[h] at e;simp at e
 |vs,.cons x k r,0,v,h,e=>by
  unfold FA at h
  obtain⟨c,u,vr,ev,q,f,_⟩:=h
  rw[ev] at e
  have e:some (V.ref c)=some v:=e
  cases e
  exact⟨c,u,x,k,rfl,rfl,q,f⟩
 |vs,.cons x k r,i+1,v,h,e=>by
  unfold FA at h
  obtain⟨c,u,vr,ev,_,_,g⟩:=h
  rw[ev] at e
  exact FA.get r (i:=i) g (by simpa using e)
mutual
noncomputable def Own (H:Hp):V->D->List Addr->Prop
 |v,.int z,fp=>v=.int z/\fp=[]
 |v,.str x,fp=>v=.str x/\fp=[]
 |v,.tup xs,fp=>∃a vs,v=.ref a/\H a=some (.tup vs)/\aX H vs xs fp
 |v,.lst xs,fp=>∃a vs fq,v=.ref a/\H a=some (.lst vs)/\fp=a::fq/\aX H vs xs fq
 |v,.dct m,fp=>∃a kvs fq,v=.ref a/\H a=some (.dK kvs)/\fp=a::fq/\bQ H kvs m fq
noncomputable def aX (H:Hp):List V->Ds->List Addr->Prop
 |vs,.nil,fp=>vs=[]/\fp=[]
 |vs,.cons _ d r,fp=>∃v q f1 f2,vs=v::q/\fp=f1++f2/\Own H v d f1/\aX H q r f2
noncomputable def bQ (H:Hp):List (Key × V)->Ds->List Addr->Prop
 |kvs,.nil,fp=>kvs=[]/\fp=[]
 |kvs,.cons x d r,fp=>∃v q f1 f2,kvs=(Sum.inr x,v)::q/\fp=f1++f2/\Own H v d f1/\bQ H q r f2
end
mutual
theorem Own.keep {H H':Hp}(t:Tu H H'):∀{v:V}(d:D) {fp:List Addr},(∀a∈fp,∀o,H a=some o->H' a=some o)->Own H v d fp->Own H' v d fp
 |v,.int z,fp,k,h=>by unfold Own at h ⊢;exact h
 |v,.str x,fp,k,h=>by unfold Own at h ⊢;exact h
 |v,.tup xs,fp,k,h=>by
  unfold Own at h ⊢
  obtain⟨a,vs,e,q,f⟩:=h
  exact⟨a,vs,e,t _ _ q,aX.keep t xs k f⟩
 |v,.lst xs,fp,k,h=>by
  unfold Own at h ⊢
  obtain⟨a,vs,fq,e,q,rfl,f⟩:=h
  exact⟨a,vs,fq,e,k a List.mem_cons_self _ q,rfl,aX.keep t xs (λb hb=>k b (List.mem_cons_of_mem _ hb)) f⟩
 |v,.dct m,fp,k,h=>by
  unfold Own at h ⊢
  obtain⟨a,vs,fq,e,q,rfl,f⟩:=h
  exact⟨a,vs,fq,e,k a List.mem_cons_self _ q,rfl,bQ.keep t m (λb hb=>k b (List.mem_cons_of_mem _ hb)) f⟩
theorem aX.keep {H H':Hp}(t:Tu H H'):∀{vs:List V}(xs:Ds) {fp:List Addr},(∀a∈fp,∀o,H a=some o->H' a=some o)->aX H vs xs fp->aX H' vs xs fp
 |vs,.nil,fp,k,h=>by unfold aX at h ⊢;exact h
 |vs,.cons x d r,fp,k,h=>by
  unfold aX at h ⊢
  obtain⟨v,q,f1,f2,e,rfl,g1,g2⟩:=h
  exact⟨v,q,f1,f2,e,rfl,Own.keep t d (λb hb=>k b (List.mem_append_left _ hb)) g1,aX.keep t r (λb hb=>k b (List.mem_append_right _ hb)) g2⟩
theorem bQ.keep {H H':Hp}(t:Tu H H'):∀{kvs:List (Key × V)}(m:Ds) {fp:List Addr},(∀a∈fp,∀o,H a=some o->H' a=some o)->bQ H kvs m fp->bQ H' kvs m fp
 |kvs,.nil,fp,k,h=>by unfold bQ at h ⊢;exact h
 |kvs,.cons x d r,fp,k,h=>by
  unfold bQ at h ⊢
  obtain⟨v,q,f1,f2,e,rfl,g1,g2⟩:=h
  exact⟨v,q,f1,f2,e,rfl,Own.keep t d (λb hb=>k b (List.mem_append_left _ hb)) g1,bQ.keep t r (λb hb=>k b (List.mem_append_right _ hb)) g2⟩
end
theorem Own.same {H H':Hp}{v:V}{d:D}{fp:List Addr}(s:Same H H')(h:Own H v d fp):Own H' v d fp:=h.keep (Tu.of s) d λa _ o e=>s a o e
theorem aX.same {H H':Hp}{v:List V}{d:Ds}{fp:List Addr}(s:Same H H')(h:aX H v d fp):aX H' v d fp:=h.keep (Tu.of s) d λa _ o e=>s a o e
noncomputable def Mu (H:Hp) (a:Addr):Prop:=(∃xs,H a=some (.lst xs))\/∃kvs,H a=some (.dK kvs)
mutual
theorem Own.alive {H:Hp}:∀{v:V}(d:D) {fp:List Addr},Own H v d fp->∀a∈fp,Mu H a
 |v,.int z,fp,h=>by unfold Own at h;rw[h.2];intro a ha;exact absurd ha (by simp)
 |v,.str x,fp,h=>by unfold Own at h;rw[h.2];intro a ha;exact absurd ha (by simp)
 |v,.tup xs,fp,h=>by
  unfold Own at h
  obtain⟨a,vs,e,q,f⟩:=h
  exact aX.alive xs f
 |v,.lst xs,fp,h=>by
  unfold Own at h
  obtain⟨a,vs,fq,e,q,rfl,f⟩:=h
  intro b hb
  rcases List.mem_cons.mp hb with z|z
  . rw[z];exact .inl ⟨_,q⟩
  . exact aX.alive xs f b z
 |v,.dct m,fp,h=>by
  unfold Own at h
  obtain⟨a,vs,fq,e,q,rfl,f⟩:=h
  intro b hb
  rcases List.mem_cons.mp hb with z|z
  . rw[z];exact .inr ⟨_,q⟩
  . exact bQ.alive m f b z
theorem aX.alive {H:Hp}:∀{vs:List V}(xs:Ds) {fp:List Addr},aX H vs xs fp->∀a∈fp,Mu H a
 |vs,.nil,fp,h=>by unfold aX at h;rw[h.2];intro a ha;exact absurd ha (by simp)
 |vs,.cons x d r,fp,h=>by
  unfold aX at h
  obtain⟨v,q,f1,f2,e,rfl,g1,g2⟩:=h
  intro b hb
  rcases List.mem_append.mp hb with z|z
  . exact Own.alive d g1 b z
  . exact aX.alive r g2 b z
theorem bQ.alive {H:Hp}:∀{kvs:List (Key × V)}(m:Ds) {fp:List Addr},bQ H kvs m fp->∀a∈fp,Mu H a
 |kvs,.nil,fp,h=>by unfold bQ at h;rw[h.2];intro a ha;exact absurd ha (by simp)
 |kvs,.cons x d r,fp,h=>by
  unfold bQ at h
  obtain⟨v,q,f1,f2,e,rfl,g1,g2⟩:=h
  intro b hb
  rcases List.mem_append.mp hb with z|z
  . exact Own.alive d g1 b z
  . exact bQ.alive r g2 b z
end
theorem Mu.ex {H:Hp}{a:Addr}(h:Mu H a):∃o,H a=some o:=by
 rcases h with⟨_,h⟩|⟨_,h⟩ <;> exact⟨_,h⟩
theorem Mu.ne {H:Hp}{a b:Addr}(h:Mu H a)(e:H b=none):a≠b:=λz=>by
 obtain⟨o,q⟩:=h.ex
 rw[z,e] at q;cases q
theorem Mu.vJ {H:Hp}{a:Addr}(h:Mu H a)(xs:List V):H a≠some (.tup xs):=λz=>by
 rcases h with⟨_,h⟩|⟨_,h⟩ <;> rw[h] at z <;> cases z
noncomputable def Ds.len:Ds->Nat
 | .nil=>0
 | .cons _ _ r=>r.len+1
noncomputable def Ds.names:Ds->List Str
 | .nil=>[]
 | .cons x _ r=>x::r.names
noncomputable def Ds.at:Ds->Nat->Option D
 | .nil,_=>none
 | .cons _ d _,0=>some d
 | .cons _ _ r,i+1=>r.at i
noncomputable def Ds.snoc:Ds->Str->D->Ds
 | .nil,x,d=>.cons x d .nil
 | .cons y e r,x,d=>.cons y e (r.snoc x d)
theorem Ds.RG:∀(xs:Ds) (x:Str) (d:D),(xs.snoc x d).len=xs.len+1
 | .nil,_,_=>rfl
 | .cons _ _ r,x,d=>by show(r.snoc x d).len+1=r.len+1+1;rw[Ds.RG r x d]
theorem Ds.vG:∀{xs:Ds}{i:Nat}{d:D},xs.at i=some d->d.dep<=xs.dep
 | .nil,_,_,h=>by cases h
 | .cons _ d r,0,_,h=>by cases h;exact Nat.le_max_left _ _
 | .cons _ d r,i+1,_,h=>Nat.le_trans (Ds.vG (xs:=r) (i:=i) h) (Nat.le_max_right _ _)
theorem aX.len {H:Hp}:∀{vs:List V}(xs:Ds) {fp:List Addr},aX H vs xs fp->vs.length=xs.len
 |vs,.nil,fp,h=>by unfold aX at h;rw[h.1];rfl
 |vs,.cons x d r,fp,h=>by
  unfold aX at h
  obtain⟨v,q,f1,f2,rfl,rfl,g1,g2⟩:=h
  show q.length+1=r.len+1
  rw[aX.len r g2]
theorem aX.get {H:Hp}:∀{vs:List V}(xs:Ds) {fp:List Addr}{i:Nat}{v:V},aX H vs xs fp->vs[i]? =some v->∃d f,xs.at i=some d/\Own H v d f/\∀a∈f,a∈fp
 |vs,.nil,fp,i,v,h,e=>by
  unfold aX at h
  rw[h.1] at e;simp at e
 |vs,.cons x d r,fp,0,v,h,e=>by
  unfold aX at h
  obtain⟨w,q,f1,f2,rfl,rfl,g1,g2⟩:=h
  have e:some w=some v:=e
  cases e
  exact⟨d,f1,rfl,g1,λa ha=>List.mem_append_left _ ha⟩
 |vs,.cons x d r,fp,i+1,v,h,e=>by
  unfold aX at h
  obtain⟨w,q,f1,f2,rfl,rfl,g1,g2⟩:=h
  obtain⟨d',f,h1,h2,h3⟩:=aX.get r (i:=i) g2 (by simpa using e)
  exact⟨d',f,h1,h2,λa ha=>List.mem_append_right _ (h3 a ha)⟩
theorem aX.snoc {H:Hp}{v:V}{d:D}{g:List Addr}{y:Str}(hv:Own H v d g):∀{vs:List V}(xs:Ds) {fp:List Addr},aX H vs xs fp->aX H (vs++[v]) (xs.snoc y d) (fp++g)
 |vs,.nil,fp,h=>by
  unfold aX at h
  obtain⟨rfl,rfl⟩:=h
  show aX H [v] (.cons y d .nil) g
  unfold aX
  exact⟨v,[],g,[],rfl,by simp,hv,by unfold aX;exact⟨rfl,rfl⟩⟩
 |vs,.cons x e r,fp,h=>by
  unfold aX at h
  obtain⟨w,q,f1,f2,rfl,rfl,g1,g2⟩:=h
  show aX H (w::(q++[v])) (.cons x e (r.snoc y d)) (f1++f2++g)
  unfold aX
  exact⟨w,q++[v],f1,f2++g,rfl,by rw[List.append_assoc],g1,aX.snoc hv r g2⟩
theorem bQ.snoc {H:Hp}{v:V}{d:D}{g:List Addr}{y:Str}(hv:Own H v d g):∀{kvs:List (Key × V)}(xs:Ds) {fp:List Addr},bQ H kvs xs fp->bQ H (kvs++[(Sum.inr y,v)]) (xs.snoc y d) (fp++g)
 |kvs,.nil,fp,h=>by
  unfold bQ at h
  obtain⟨rfl,rfl⟩:=h
  show bQ H [(Sum.inr y,v)] (.cons y d .nil) g
  unfold bQ
  exact⟨v,[],g,[],rfl,by simp,hv,by unfold bQ;exact⟨rfl,rfl⟩⟩
 |kvs,.cons x e r,fp,h=>by
  unfold bQ at h
  obtain⟨w,q,f1,f2,rfl,rfl,g1,g2⟩:=h
  show bQ H ((Sum.inr x,w)::(q++[(Sum.inr y,v)])) (.cons x e (r.snoc y d)) (f1++f2++g)
  unfold bQ
  exact⟨w,q++[(Sum.inr y,v)],f1,f2++g,rfl,by rw[List.append_assoc],g1,bQ.snoc hv r g2⟩
theorem bQ.keys {H:Hp}:∀{kvs:List (Key × V)}(m:Ds) {fp:List Addr},bQ H kvs m fp->kvs.map (·.1)=m.names.map Sum.inr
 |kvs,.nil,fp,h=>by unfold bQ at h;rw[h.1];rfl
 |kvs,.cons x d r,fp,h=>by
  unfold bQ at h
  obtain⟨v,q,f1,f2,rfl,rfl,g1,g2⟩:=h
  show Sum.inr x::q.map (·.1)=Sum.inr x::r.names.map Sum.inr
  rw[bQ.keys r g2]
theorem bQ.len {H:Hp}{kvs:List (Key × V)}{m:Ds}{fp:List Addr}(h:bQ H kvs m fp):kvs.length=m.names.length:=by
 have:=congrArg List.length (bQ.keys m h)
 simpa using this
theorem bQ.ac7 {H:Hp}{kvs:List (Key × V)}{m:Ds}{fp:List Addr}{x:Str}(h:bQ H kvs m fp)(hx:x ∉ m.names):dH kvs (Sum.inr x)=none:=by
 cases e:dH kvs (Sum.inr x) with
 |none=>rfl
 |some v=>
  have:=Qk e
  rw[bQ.keys m h] at this
  obtain⟨y,hy,e2⟩:=List.mem_map.mp this
  cases e2
  exact absurd hy hx
theorem sS {kvs:List (Key × V)}{k:Key}{v:V}(h:dH kvs k=none):putK kvs k v=kvs++[(k,v)]:=by
 unfold putK
 rw[if_neg]
 rw[yd,h];simp
noncomputable def Kp (S:Addr->Prop) (H H':Hp):Prop:=∀c o,¬S c->H c=some o->H' c=some o
theorem Kp.trans {S:Addr->Prop}{H H1 H2:Hp}(x:Kp S H H1)(y:Kp S H1 H2):Kp S H H2:=λc o n h=>y c o n (x c o n h)
theorem Kp.of {S:Addr->Prop}{H H':Hp}(s:Same H H'):Kp S H H':=λc o _ h=>s c o h
noncomputable def lt (z:Int):Str:=⟨#[97+z.toNat]⟩
theorem yP (z:Int):(lt z).length=1:=rfl
theorem ac8:∀j:Nat,j<26->(("abcdefghijklmnopqrstuvwxyz":Str)).cps.toList[j]? =some (97+j):=by decide +kernel
theorem ac9:(("abcdefghijklmnopqrstuvwxyz":Str)).cps.toList.length=26:=by decide +kernel
theorem yQ {z:Int}(h0:0<=z)(h1:z<26):dj (("abcdefghijklmnopqrstuvwxyz":Str)).cps.toList z=some (97+z.toNat):=by
 unfold dj mW
 rw[ac9,if_pos h0,if_pos (show z<((26:Nat):Int) by omega)]
 exact ac8 z.toNat (by omega)
theorem ac_ {z:Int}(h0:0<=z)(h1:z<6):dj [V.int 1,.int 3,.int 5,.int 7,.int 9,.int 11] z=some (.int (2 * z+1)):=by
 have h:z=0\/z=1\/z=2\/z=3\/z=4\/z=5:=by omega
 rcases h with h|h|h|h|h|h <;> subst h <;> rfl
noncomputable def nameAt (m:Int) (k:Nat):Str:=
 if m / 12168 % 4=0 then Txt.mul (lt (m / 6 % 26)) ((k:Int)+1)
 else Txt.slice (lt (m / 6 % 26)++lt (m / 156 % 26)) none (some (m / 4056 % 3))++lt ((m / 156+(k:Int) * (2 * (m % 6)+1)) % 26)++Txt.slice (lt (m / 6 % 26)++lt (m / 156 % 26)) (some (m / 4056 % 3)) none
theorem foldl_size (a:Array Nat):∀(n:Nat) (b:Array Nat),((List.replicate n a).foldl (· ++ ·) b).size=b.size+n * a.size
 |0,b=>by simp
 |n+1,b=>by
  rw[List.replicate_succ,List.foldl_cons,foldl_size a n,Array.size_append,Nat.succ_mul];omega
theorem RJ {x:Str}(hx:x.length=1)(k:Nat):(Txt.mul x ((k:Int)+1)).length=k+1:=by
 have hs:x.cps.size=1:=hx
 unfold Txt.mul
 rw[if_neg (by omega)]
 by_cases h:k=0
 . subst h
   rw[if_pos (by simp)]
   exact hx
 . rw[if_neg]
   . show((List.replicate ((k:Int)+1).toNat x.cps).foldl (· ++ ·) #[]).size=k+1
     rw[foldl_size,hs,show((k:Int)+1).toNat=k+1 by omega];simp
   . rw[hx]
     simp
     omega
theorem DQ (x y:Str):(x++y).cps.toList=x.cps.toList++y.cps.toList:=by
 show(x.cps++y.cps).toList=_
 simp
theorem RL (x y:Str):(x++y).length=x.length+y.length:=by
 show(x.cps++y.cps).size=x.cps.size+y.cps.size
 simp
theorem ada {p q:Str}{z w:Int}(h:p++lt z++q=p++lt w++q):z.toNat=w.toNat:=by
 have e:=congrArg (λs:Str=>s.cps.toList) h
 simp only[DQ] at e
 have e:=List.append_cancel_left (List.append_cancel_right e)
 have e:[97+z.toNat]=[97+w.toNat]:=e
 have e:=List.cons.inj e |>.1
 omega
theorem adb {m:Int}{i j:Nat}(hm:0<=m)(hi:i<12)(hj:j<12)(h:nameAt m i=nameAt m j):i=j:=by
 unfold nameAt at h
 by_cases hb:m / 12168 % 4=0
 . rw[if_pos hb,if_pos hb] at h
   have e:=congrArg Str.length h
   rw[RJ (yP _),RJ (yP _)] at e
   omega
 . rw[if_neg hb,if_neg hb] at h
   have e:=ada h
   have hs:m % 6=0\/m % 6=1\/m % 6=2\/m % 6=3\/m % 6=4\/m % 6=5:=by omega
   generalize m / 156=a at e
   rcases hs with s|s|s|s|s|s <;> rw[s] at e <;> omega
theorem ade {f:Nat->Str}:∀{n:Nat},(∀i j,i<n->j<n->f i=f j->i=j)->((List.range n).map f).Nodup:=by
 intro n h
 refine List.pairwise_map.mpr (List.Pairwise.imp_of_mem (λ{a b} ha hb hab=>?_) (List.nodup_range (n:=n)))
 intro e
 exact hab (h a b (List.mem_range.mp ha) (List.mem_range.mp hb) e)
theorem names_nodup {m:Int}{n:Nat}(hm:0<=m)(hn:n<=12):((List.range n).map (nameAt m)).Nodup:=
 ade λi j hi hj e=>adb hm (by omega) (by omega) e
theorem adf {x:Str}(hx:x.length=1){k:Nat}(hk:k<12)(hl:∀n,n<=1000->Builtin.Str.tooLong n=false):MulOk x ((k:Int)+1):=by
 refine⟨?_,λ_ _=>?_,λ_ _=>?_⟩
 . have e1:decide (((k:Int)+1)< -(2 ^ 63:Int))=false:=decide_eq_false (by omega)
   have e2:decide (((k:Int)+1) ≥ 2 ^ 63)=false:=decide_eq_false (by omega)
   rw[e1,e2];rfl
 . rw[hx]
   have h:k=0\/k=1\/k=2\/k=3\/k=4\/k=5\/k=6\/k=7\/k=8\/k=9\/k=10\/k=11:=by omega
   rcases h with h|h|h|h|h|h|h|h|h|h|h|h <;> subst h <;> decide
 . rw[hx]
   exact hl _ (by omega)
end Pb
namespace Pb
open PySem L2 PyProof.Rows PySem.Spec PySem.StrLaws PySem.Builtin PySem.Builtin.Str
noncomputable def jO (H:Hp) (u:V) (pl:Bool):Prop:=∃a f rest,u=.ref a/\H a=some (.tup (.str f::rest))/\(pl=true->rest=[]/\(f="number"\/f="word"))/\(pl=false->f≠"number"/\f≠"word")/\∀v∈rest,(∃s,v=.str s)\/∃c,v=.ref c
theorem jO.mono {H H':Hp}(t:Tu H H'){u:V}{pl:Bool}(h:jO H u pl):jO H' u pl:=by
 obtain⟨a,f,rest,e,h1,h2⟩:=h
 exact⟨a,f,rest,e,t _ _ h1,h2⟩
theorem jO.of {H:Hp}{u:V}:∀{k:Kd},KA H u k->∃pl,jO H u pl
 | .num,h=>by
   unfold KA at h
   obtain⟨a,e,q⟩:=h
   exact⟨true,a,_,_,e,q,λ_=>⟨rfl,.inl rfl⟩,(λz=>by cases z),λv hv=>nomatch hv⟩
 | .bW,h=>by
   unfold KA at h
   obtain⟨a,e,q⟩:=h
   exact⟨true,a,_,_,e,q,λ_=>⟨rfl,.inr rfl⟩,(λz=>by cases z),λv hv=>nomatch hv⟩
 | .gb fs,h=>by
   unfold KA at h
   obtain⟨a,b,vs,e,q,_⟩:=h
   exact⟨false,a,_,_,e,q,(λz=>by cases z),(λ_=>by decide),λv hv=>by rw[List.mem_singleton.mp hv];exact .inr ⟨_,rfl⟩⟩
 | .rows key by_ fs,h=>by
   unfold KA at h
   obtain⟨a,b,vs,e,q,_⟩:=h
   refine⟨false,a,_,_,e,q,(λz=>by cases z),(λ_=>by decide),λv hv=>?_⟩
   simp only[List.mem_cons,List.mem_nil_iff,or_false] at hv
   rcases hv with z|z|z <;> subst z
   . exact .inl ⟨_,rfl⟩
   . exact .inl ⟨_,rfl⟩
   . exact .inr ⟨_,rfl⟩
 | .tree k,h=>by
   unfold KA at h
   obtain⟨a,b,e,q,hk⟩:=h
   obtain⟨_,c,_,_,ec,_⟩:=jO.of hk
   exact⟨false,a,_,_,e,q,(λz=>by cases z),(λ_=>by decide),λv hv=>by rw[List.mem_singleton.mp hv];exact .inr ⟨c,ec⟩⟩
 | .jq fs,h=>by
   unfold KA at h
   obtain⟨a,b,vs,e,q,_⟩:=h
   exact⟨false,a,_,_,e,q,(λz=>by cases z),(λ_=>by decide),λv hv=>by rw[List.mem_singleton.mp hv];exact .inr ⟨_,rfl⟩⟩
noncomputable abbrev Qd:=V × Str × Bool
noncomputable def yR (H:Hp) (q:Qd):Prop:=∃c u,q.1=.ref c/\H c=some (.tup [.str q.2.1,u])/\jO H u q.2.2
noncomputable def j5 (H:Hp) (qs:List Qd):Prop:=∀q∈qs,yR H q
noncomputable def nms (qs:List Qd):List Str:=qs.map (·.2.1)
noncomputable def cD (qs:List Qd):List V:=qs.map (·.1)
theorem yR.mono {H H':Hp}(t:Tu H H'){q:Qd}(h:yR H q):yR H' q:=by
 obtain⟨c,u,e,h1,h2⟩:=h
 exact⟨c,u,e,t _ _ h1,h2.mono t⟩
theorem j5.mono {H H':Hp}(t:Tu H H'){qs:List Qd}(h:j5 H qs):j5 H' qs:=λq hq=>(h q hq).mono t
noncomputable def sle (x y:Str):Prop:=lU (dg x) (dg y)
noncomputable def slt (x y:Str):Prop:=cJ (dg x) (dg y)=true
theorem RN (x y:Str)(h:slt x y):¬slt y x:=λh2=>by
 have z:=vp _ _ _ h h2
 rw[C_] at z
 cases z
theorem adg {x y:Str}(h:dg x=dg y):x=y:=Sum.inr.inj (List.cons.inj h).1
theorem DR {x y:Str}(h:sle x y):slt x y\/x=y:=by
 rcases vq (dg x) (dg y) with q|q|q
 . exact .inl q
 . exact .inr (adg q)
 . have h:cJ (dg y) (dg x)=false:=h
   rw[h] at q;cases q
theorem RP {x y:Str}(h:slt x y):sle x y:=by
 unfold sle lU
 cases e:cJ (dg y) (dg x) with
 |false=>rfl
 |true=>exact absurd e (RN _ _ h)
theorem DW {x y z:Str}(h1:sle x y)(h2:sle y z):sle x z:=by
 rcases DR h1 with a|a
 . rcases DR h2 with b|b
   . exact RP (vp _ _ _ a b)
   . rw[<-b];exact h1
 . rw[a];exact h2
theorem adh (x y:Str):ltCps x.cps.toList y.cps.toList=cJ (dg x) (dg y):=by
 rw[Ri]
 exact ltCps_eq _ _
theorem DX:∀{ss:List Str},sortedS ss=true->ss.Pairwise sle
 |[],_=>.nil
 |[x],_=>List.pairwise_singleton _ _
 |x::y::r,h=>by
  have h:(!ltCps y.cps.toList x.cps.toList && risingS y r)=true:=h
  obtain⟨h1,h2⟩:=Bool.and_eq_true_iff.mp h
  have ih:(y::r).Pairwise sle:=DX (ss:=y::r) h2
  have hxy:sle x y:=by
   rw[adh] at h1
   unfold sle lU
   cases e:cJ (dg y) (dg x) with
   |false=>rfl
   |true=>rw[e] at h1;cases h1
  refine .cons (λz hz=>?_) ih
  rcases List.mem_cons.mp hz with e|e
  . rw[e];exact hxy
  . exact DW hxy ((List.pairwise_cons.mp ih).1 z e)
theorem RQ {α:Type}{R:α->α->Prop}(as:∀a b,R a b->¬R b a):∀{l1 l2:List α},l1.Perm l2->l1.Pairwise R->l2.Pairwise R->l1=l2
 |[],l2,p,_,_=>by rw[p.nil_eq]
 |a::r,[],p,_,_=>absurd p.length_eq (by simp)
 |a::r,b::q,p,h1,h2=>by
  obtain⟨a1,a2⟩:=List.pairwise_cons.mp h1
  obtain⟨b1,b2⟩:=List.pairwise_cons.mp h2
  have hab:a=b:=by
   have ha:a∈b::q:=p.mem_iff.mp List.mem_cons_self
   have hb:b∈a::r:=p.mem_iff.mpr List.mem_cons_self
   rcases List.mem_cons.mp ha with e|e
   . exact e
   . rcases List.mem_cons.mp hb with e2|e2
     . exact e2.symm
     . exact absurd (a1 b e2) (as b a (b1 a e))
  subst hab
  rw[RQ as ((List.perm_cons a).mp p) a2 b2]
noncomputable def RT (x:Str):Prop:=x.length<=12/\(∀c∈x.cps.toList,c<128)/\x≠"yx"/\x≠""/\x≠"xy"
theorem foldl_rep (c:Nat):∀(n:Nat) (b:Array Nat),((List.replicate n #[c]).foldl (· ++ ·) b).toList=b.toList++List.replicate n c
 |0,b=>by simp
 |n+1,b=>by
  rw[List.replicate_succ,List.foldl_cons,foldl_rep c n,Array.toList_append,List.append_assoc]
  rfl
theorem vK (z:Int)(k:Nat):(Txt.mul (lt z) ((k:Int)+1)).cps.toList=List.replicate (k+1) (97+z.toNat):=by
 unfold Txt.mul
 rw[if_neg (by omega)]
 by_cases h:(((k:Int)+1 == 1) || (lt z).length == 0)=true
 . rw[if_pos h]
   have hk:k=0:=by
    rw[yP] at h
    simp at h
    omega
   subst hk
   rfl
 . rw[if_neg h]
   have e:((k:Int)+1).toNat=k+1:=by omega
   rw[e]
   show((List.replicate (k+1) #[97+z.toNat]).foldl (· ++ ·) #[]).toList=_
   rw[foldl_rep]
   rfl
theorem adi (a b:Int){c:Int}(h0:0<=c)(h1:c<3):∃l1 l2:List Nat,(Txt.slice (lt a++lt b) none (some c)).cps.toList=l1/\(Txt.slice (lt a++lt b) (some c) none).cps.toList=l2/\l1++l2=[97+a.toNat,97+b.toNat]:=by
 have hs:(lt a++lt b)=⟨#[97+a.toNat,97+b.toNat]⟩:=rfl
 rw[hs]
 have:c=0\/c=1\/c=2:=by omega
 rcases this with rfl|rfl|rfl
 . refine⟨[],[97+a.toNat,97+b.toNat],rfl,?_,rfl⟩
   have e:strSliceIndices (some 0) none 1 2=[0,1]:=by decide +kernel
   unfold Txt.slice
   rw[show(⟨#[97+a.toNat,97+b.toNat]⟩:Str).length=2 from rfl,e]
   rfl
 . refine⟨[97+a.toNat],[97+b.toNat],rfl,?_,rfl⟩
   have e:strSliceIndices (some 1) none 1 2=[1]:=by decide +kernel
   unfold Txt.slice
   rw[show(⟨#[97+a.toNat,97+b.toNat]⟩:Str).length=2 from rfl,e]
   rfl
 . exact⟨[97+a.toNat,97+b.toNat],[],rfl,rfl,rfl⟩
theorem RV:("yx":Str).cps.toList=[121,120]:=by decide +kernel
theorem RW:("xy":Str).cps.toList=[120,121]:=by decide +kernel
theorem adk {m:Int}{i:Nat}(hi:i<12):RT (nameAt m i):=by
 have l1:(m / 6 % 26).toNat<26:=by omega
 have l2:(m / 156 % 26).toNat<26:=by omega
 have l3:((m / 156+(i:Int) * (2 * (m % 6)+1)) % 26).toNat<26:=by
  have:=Int.emod_lt_of_pos (m / 156+(i:Int) * (2 * (m % 6)+1)) (show(0:Int)<26 by decide)
  have:=Int.emod_nonneg (m / 156+(i:Int) * (2 * (m % 6)+1)) (show(26:Int)≠0 by decide)
  omega
 have len:∀x:Str,x.length=x.cps.toList.length:=λx=>by rw[Array.length_toList];rfl
 unfold nameAt
 by_cases h:m / 12168 % 4=0
 . rw[if_pos h]
   refine⟨?_,λc hc=>?_,λe=>?_,λe=>?_,λe=>?_⟩
   . rw[len,vK,List.length_replicate];omega
   . rw[vK] at hc
     rw[(List.mem_replicate.mp hc).2];omega
   . have:=congrArg (λx:Str=>x.cps.toList) e
     have this:(Txt.mul (lt (m / 6 % 26)) ((i:Int)+1)).cps.toList=("yx":Str).cps.toList:=this
     rw[vK,RV] at this
     have hh:∀c∈([121,120]:List Nat),c=97+(m / 6 % 26).toNat:=λc hc=>by
      rw[<-this] at hc
      exact(List.mem_replicate.mp hc).2
     have a:=hh 121 (by simp)
     have b:=hh 120 (by simp)
     omega
   . have:=congrArg (λx:Str=>x.cps.toList.length) e
     have this:(Txt.mul (lt (m / 6 % 26)) ((i:Int)+1)).cps.toList.length=("":Str).cps.toList.length:=this
     rw[vK,List.length_replicate] at this
     have:i+1=0:=this
     omega
   . have:=congrArg (λx:Str=>x.cps.toList) e
     have this:(Txt.mul (lt (m / 6 % 26)) ((i:Int)+1)).cps.toList=("xy":Str).cps.toList:=this
     rw[vK,RW] at this
     have hh:∀c∈([120,121]:List Nat),c=97+(m / 6 % 26).toNat:=λc hc=>by
      rw[<-this] at hc
      exact(List.mem_replicate.mp hc).2
     have a:=hh 121 (by simp)
     have b:=hh 120 (by simp)
     omega
 . rw[if_neg h]
   obtain⟨p1,p2,e1,e2,e3⟩:=adi (m / 6 % 26) (m / 156 % 26) (c:=m / 4056 % 3) (by omega) (by omega)
   have vL:(Txt.slice (lt (m / 6 % 26)++lt (m / 156 % 26)) none (some (m / 4056 % 3))++lt ((m / 156+(i:Int) * (2 * (m % 6)+1)) % 26)++Txt.slice (lt (m / 6 % 26)++lt (m / 156 % 26)) (some (m / 4056 % 3)) none).cps.toList
    =p1++[97+((m / 156+(i:Int) * (2 * (m % 6)+1)) % 26).toNat]++p2:=by
    rw[DQ,DQ,e1,e2];rfl
   have yS:p1.length+p2.length=2:=by
    have:=congrArg List.length e3
    rw[List.length_append] at this
    exact this
   refine⟨?_,λc hc=>?_,λe=>?_,λe=>?_,λe=>?_⟩
   . rw[len,vL,List.length_append,List.length_append,List.length_singleton];omega
   . rw[vL] at hc
     have hc:c∈p1++p2\/c=97+((m / 156+(i:Int) * (2 * (m % 6)+1)) % 26).toNat:=by
      simp only[List.mem_append,List.mem_singleton] at hc ⊢
      rcases hc with(a|a)|a
      . exact .inl (.inl a)
      . exact .inr a
      . exact .inl (.inr a)
     rcases hc with a|a
     . rw[e3] at a
       simp only[List.mem_cons,List.mem_nil_iff,or_false] at a
       omega
     . omega
   . have:=congrArg (λx:Str=>x.cps.toList.length) e
     have this:List.length _=List.length _:=this
     rw[vL,RV,List.length_append,List.length_append,List.length_singleton] at this
     have:p1.length+1+p2.length=2:=this
     omega
   . have:=congrArg (λx:Str=>x.cps.toList.length) e
     have this:List.length _=List.length _:=this
     rw[vL,List.length_append,List.length_append,List.length_singleton] at this
     have:p1.length+1+p2.length=0:=this
     omega
   . have:=congrArg (λx:Str=>x.cps.toList.length) e
     have this:List.length _=List.length _:=this
     rw[vL,RW,List.length_append,List.length_append,List.length_singleton] at this
     have:p1.length+1+p2.length=2:=this
     omega
end Pb
namespace Pb
open PySem L2
noncomputable def top (i:Nat):Stmt:=PySem.Challenge.pw_putback_k58_unroll_refused.main.body.getD i (.Pass ⟨0,0,0,0⟩)
theorem boot_isinstance:bootBuiltins "isinstance"=some (.builtin "isinstance"):=by decide +kernel
theorem boot_sorted:bootBuiltins "sorted"=some (.builtin "sorted"):=by decide +kernel
theorem boot_min:bootBuiltins "min"=some (.builtin "min"):=by decide +kernel
theorem boot_all:bootBuiltins "all"=some (.builtin "all"):=by decide +kernel
theorem boot_int:bootBuiltins "int"=some (.type "int"):=by decide +kernel
theorem boot_bool:bootBuiltins "bool"=some (.type "bool"):=by decide +kernel
theorem boot_str:bootBuiltins "str"=some (.type "str"):=by decide +kernel
theorem boot_list:bootBuiltins "list"=some (.type "list"):=by decide +kernel
theorem boot_tuple:bootBuiltins "tuple"=some (.type "tuple"):=by decide +kernel
theorem boot_set:bootBuiltins "set"=some (.type "set"):=by decide +kernel
theorem boot_dict:bootBuiltins "dict"=some (.type "dict"):=by decide +kernel
structure Tb (mg:Str->Option Value):Prop where
 dY:mg "len"=none
 RX:mg "min"=none
 fH:mg "isinstance"=none
 DY:mg "sorted"=none
 RZ:mg "all"=none
 vM:mg "range"=none
 D_:mg "enumerate"=none
 R0:mg "zip"=none
 vN:mg "int"=none
 yU:mg "bool"=none
 Ea:mg "str"=none
 yV:mg "list"=none
 adl:mg "tuple"=none
 sU:mg "dict"=none
 adn:mg "set"=none
structure Dn (K:W.Frag) (mg:Str->Option Value) (x:Str) (ps:List Str) (st:Stmt) (f:Addr) (fd:FuncData):Prop where
 F:jZ K x x st f fd
 b:Binds K fd ps []
 m:mg x=some (.ref f)
noncomputable def j6 (K:W.Frag) (H:Hp) (a:Addr) (ns:List Int):Prop:=
 (∃o,H a=some (.iB o (.lst (ns.map V.int))))\/
   ∃(o:Obj) (its:Array Value) (n:Nat),K.lookup a=some o/\o.cls=.type "list"/\o.dict=none/\o.data=.seq its n/\its.size<=sizeLine/\Vals (ns.map V.int) its.toList
theorem j6.sq {K:W.Frag}{H:Hp}{a:Addr}{ns:List Int}(h:j6 K H a ns):aq K H a (ns.map V.int):=by
 rcases h with⟨o,h⟩|h
 . exact .inl (.inr ⟨o,h⟩)
 . exact .inr h
noncomputable def SB (b:Addr) (H H':Hp):Prop:=∀c o,c≠b->H c=some o->H' c=some o
theorem SB.refl (b:Addr)(H:Hp):SB b H H:=λ_ _ _ h=>h
theorem SB.trans {b:Addr}{H H1 H2:Hp}(x:SB b H H1)(y:SB b H1 H2):SB b H H2:=λc o n h=>y c o n (x c o n h)
theorem SB.of {b:Addr}{H H':Hp}(s:Same H H'):SB b H H':=λc o _ h=>s c o h
theorem SB.wr {b:Addr}{H:Hp}{o:HO}:SB b H (upd H b o):=λc u n h=>by rw[au n];exact h
theorem SB.new {b p:Addr}{H:Hp}{o:HO}(h:H p=none):SB b H (upd H p o):=λc u n q=>by rw[au (aR q h)];exact q
structure G0 (K:W.Frag) (H:Hp) (a b:Addr) (ns:List Int) (n:Int):Prop where
 oV:j6 K H a ns
 len:ns.length<=63
 at_:H b=some (.lst [.int n])
 pos:0<=n
theorem SB.oV {K:W.Frag}{b:Addr}{H H':Hp}{a:Addr}{ns:List Int}{n:Int}(x:SB b H H')(hb:H b=some (.lst [.int n]))(h:j6 K H a ns):j6 K H' a ns:=by
 rcases h with⟨o,h⟩|h
 . exact .inl ⟨o,x a _ (jV h hb (by intro z;cases z)) h⟩
 . exact .inr h
theorem SB.tu {b:Addr}{H H':Hp}{n:Int}(x:SB b H H')(hb:H b=some (.lst [.int n])):Tu H H':=λc xs h=>x c _ (jV h hb (by intro z;cases z)) h
theorem G0.go {K:W.Frag}{H H':Hp}{a b:Addr}{ns:List Int}{n n':Int}(g:G0 K H a b ns n)(x:SB b H H')(h:H' b=some (.lst [.int n']))(hn:n<=n'):G0 K H' a b ns n':=
 ⟨x.oV g.at_ g.oV,g.len,h,by have:=g.pos;omega⟩
theorem Same.new {H:Hp}{p:Addr}{o:HO}(h:H p=none):Same H (upd H p o):=λc u q=>by rw[au (aR q h)];exact q
theorem int_at {ns:List Int}{z:Int}(h0:0<=z)(h1:z<ns.length):dj (ns.map V.int) z=some (.int (ns.getD z.toNat 0)):=by
 obtain⟨j,rfl⟩:∃j:Nat,z=(j:Int):=⟨z.toNat,by omega⟩
 rw[Int.toNat_natCast]
 exact iG (by rw[List.getElem?_map,List.getD_eq_getElem?_getD,List.getElem?_eq_getElem (by omega)];rfl)
noncomputable def vO (K:W.Frag):Sp:=λvs H Q _=>∃a b ns n,vs=[.ref a,.ref b]/\G0 K H a b ns n/\n<=1000000000000/\
 ∀(H':Hp),SB b H H'->H' b=some (.lst [.int (n+1)])->Q (.int (nx ns (n+1))) H'
noncomputable def q9 (K:W.Frag):Sp:=λvs H Q _=>∃a b ns n,vs=[.ref a,.ref b]/\G0 K H a b ns n/\n<=1000000000000/\
 ∀(r:Int) (H':Hp),0<=r->r<1999999973->SB b H H'->H' b=some (.lst [.int (n+1)])->Q (.int r) H'
theorem ado {P:Program}{w:World}{K:W.Frag}{mg:Str->Option Value}{base:Heap}{CX:jw}{k:Nat}{f:Addr}{fd:FuncData}{ps:List Str}(F:aH P w K mg base CX k f fd ps (vO K)):aH P w K mg base CX k f fd ps (q9 K):=
 F.imp λvs H Q E ⟨a,b,ns,n,e,g,hn,q⟩=>⟨a,b,ns,n,e,g,hn,λH' s1 h1=>q _ H' (Dv _ _) (Dw _ _) s1 h1⟩
noncomputable def R3 (K:W.Frag):Sp:=λvs H Q _=>∃a b ns n,vs=[.ref a,.ref b]/\G0 K H a b ns n/\n<=1000000000000/\
 ∀(v:V) (k:Kd) (H':Hp),SB b H H'->H' b=some (.lst [.int (n+1)])->KA H' v k->k.dep<=1->fC k->k.W->Q v H'
noncomputable def ck:Nat->Nat
 |0=>2
 |d+1=>3 * ck d+6
noncomputable def R4 (K:W.Frag):Sp:=λvs H Q _=>∃a b ns n,vs=[.ref a,.ref b]/\G0 K H a b ns n/\n<=1000000000000/\
 ∀(H':Hp),SB b H H'->H' b=some (.lst [.int (n+1)])->Q (.int (num ns (n+1))) H'
noncomputable def R5 (K:W.Frag):Sp:=λvs H Q _=>∃a b ns n,vs=[.ref a,.ref b]/\G0 K H a b ns n/\n<=1000000000000/\
 ∀(H':Hp),SB b H H'->H' b=some (.lst [.int (n+1)])->Q (.str (bW ns (n+1))) H'
noncomputable def R6 (K:W.Frag):Sp:=λvs H Q _=>∃a b ns n,∃m:Nat,vs=[.ref a,.ref b,.int m]/\m<=12/\G0 K H a b ns n/\n<=1000000000000/\
 ∀(p:Addr) (ss:List Str) (H':Hp),SB b H H'->H' b=some (.lst [.int (n+1)])->p≠b->H p=none->H' p=some (.lst (ss.map V.str))->ss.length=m->ss.Nodup->ss.Pairwise sle->(∀x∈ss,RT x)->Q (.ref p) H'
variable {P:Program}{w:World}{K:W.Frag}{mg:Str->Option Value}{base:Heap}
theorem R7:b_ ["_law_script","_law_at","_law_cell","_law_m"] ["_law_script","_law_at"] (aM (top 30)):=cI
theorem R8 (T:Tb mg)(bB:Dn K mg "_law_next" ["_law_script","_law_at"] (top 30) fJ fL):aH P w K mg base aP (1) fJ fL ["_law_script","_law_at"] (vO K):=by
 refine bB.F.ok R7 (λvs H Q E h=>?_) (λcdv A outer s H vs Q E hr h=>?_)
 . obtain⟨a,b,ns,n,rfl,_⟩:=h
   rfl
 obtain⟨a,b,ns,n,rfl,g,hn,q⟩:=h
 have nd:=R7.nd
 refine⟨_,(aB (Ov (aL gC (aJ bh (pv 1) ak (λ_ _=>rfl)) ak) (Ou (pv 1) ak set_list))
  (aB (aW (i:=2) nd rfl (Or.inl rfl) ak)
  (aB (aV (aU rR (bN gG (by rfl) T.dY PySem.boot_len (aj (pv 0) ao)) ak (aQ _)) (aC (aW (i:=2) nd rfl (Or.inl rfl) (aJ bh (pv 0) (aL cH (aJ bh (pv 1) ak (λ_ _=>rfl)) (bN gG (by rfl) T.dY PySem.boot_len (aj (pv 0) ao))) (λ_ _=>rfl)))) aZ)
  (aB (aW (i:=3) nd rfl (Or.inl rfl) (aL cH (aL mR (aL gC (aL gC (aL cH (pv 2) ak) (aL mR (aL mR (aJ bh (pv 1) ak (λ_ _=>rfl)) (aJ bh (pv 1) ak (λ_ _=>rfl))) ak)) ak) ak) ak))
  (aC (bf (aL cH (aL mR (pv 3) (pv 3)) ak))))))),?_⟩
 have hb:=g.at_
 have hp:=g.pos
 have hS:aq K (upd H b (.lst [.int (n+1)])) a (ns.map V.int):=(SB.wr.oV hb g.oV).sq
 have hb':upd H b (.lst [.int (n+1)]) b=some (.lst [.int (n+1)]):=aD
 refine⟨_,rfl,b,_,_,_,rfl,rfl,aq.of hb,rfl,_,_,rfl,rfl,_,rfl,b,_,_,0,rfl,rfl,hb,rfl,?_⟩
 refine⟨_,rfl,a,_,rfl,.inl hS,_,_,rfl,rfl,_,rfl,?_⟩
 have hl:(ns.map V.int).length=ns.length:=List.length_map _
 refine cu (λc=>?_) (λc=>?_)
 . have c':(0:Int)<((ns.map V.int).length:Nat):=of_decide_eq_true c
   rw[hl] at c'
   have i0:=Int.emod_nonneg (n+1) (show(ns.length:Int)≠0 by omega)
   have i1:=Int.emod_lt_of_pos (n+1) c'
   have hz:dj (ns.map V.int) ((n+1) % (((ns.map V.int).length:Nat):Int))=some (.int (cellAt ns (n+1))):=by
    rw[hl,int_at i0 i1]
    unfold cellAt
    rw[if_pos (by omega)]
   refine⟨_,rfl,_,rfl,b,_,_,_,rfl,rfl,aq.of hb',rfl,_,rfl,a,_,rfl,.inl hS,_,_,rfl,rfl,by rw[hl];exact c',a,_,_,_,rfl,rfl,hS,hz,?_⟩
   refine⟨_,rfl,_,_,rfl,rfl,(by show(0:Int)<_;decide),_,rfl,b,_,_,_,rfl,rfl,aq.of hb',rfl,_,rfl,b,_,_,_,rfl,rfl,aq.of hb',rfl,_,_,rfl,rfl,.inl ⟨by omega,by omega⟩,_,_,rfl,rfl,.inr ⟨by decide,by decide⟩,
    _,_,rfl,rfl,_,_,rfl,rfl,_,_,rfl,rfl,.inr ⟨by decide,by decide⟩,_,_,rfl,rfl,(by show(0:Int)<_;decide),?_⟩
   refine⟨_,rfl,_,rfl,_,_,rfl,rfl,.inl ⟨?_,?_⟩,_,_,rfl,rfl,(by show(0:Int)<_;decide),q _ SB.wr hb'⟩
   . exact Int.lt_of_lt_of_le (by decide) (Int.emod_nonneg _ (by decide))
   . exact Int.lt_trans (Int.emod_lt_of_pos _ (by decide)) (by decide)
 . have c':¬(0:Int)<((ns.map V.int).length:Nat):=λz=>c (decide_eq_true z)
   rw[hl] at c'
   have hz:cellAt ns (n+1)=0:=by
    unfold cellAt
    rw[if_neg (by omega)]
   have q':Q (.int (((0:Int) % 2147483647+(n+1) * (n+1) * 7919+11) * 48271 % 2147483647 * (((0:Int) % 2147483647+(n+1) * (n+1) * 7919+11) * 48271 % 2147483647) % 1999999973)) (upd H b (.lst [.int (n+1)])):=by
    have:=q _ SB.wr hb'
    unfold nx at this
    rw[hz] at this
    exact this
   refine⟨_,rfl,_,_,rfl,rfl,(by show(0:Int)<_;decide),_,rfl,b,_,_,_,rfl,rfl,aq.of hb',rfl,_,rfl,b,_,_,_,rfl,rfl,aq.of hb',rfl,_,_,rfl,rfl,.inl ⟨by omega,by omega⟩,_,_,rfl,rfl,.inr ⟨by decide,by decide⟩,
    _,_,rfl,rfl,_,_,rfl,rfl,_,_,rfl,rfl,.inr ⟨by decide,by decide⟩,_,_,rfl,rfl,(by show(0:Int)<_;decide),?_⟩
   refine⟨_,rfl,_,rfl,_,_,rfl,rfl,.inl ⟨?_,?_⟩,_,_,rfl,rfl,(by show(0:Int)<_;decide),q'⟩
   . exact Int.lt_of_lt_of_le (by decide) (Int.emod_nonneg _ (by decide))
   . exact Int.lt_trans (Int.emod_lt_of_pos _ (by decide)) (by decide)
theorem R9:b_ ["_law_script","_law_at"] ["_law_script","_law_at"] (aM (top 34)):=cI
theorem adp (T:Tb mg)(oW:Dn K mg "_law_plain" ["_law_script","_law_at"] (top 34) Eb Ec)(bB:Dn K mg "_law_next" ["_law_script","_law_at"] (top 30) fJ fL)(gh:aH P w K mg base aP (1) fJ fL ["_law_script","_law_at"] (q9 K)):aH P w K mg base aP (2) Eb Ec ["_law_script","_law_at"] (R3 K):=by
 refine oW.F.ok R9 (λvs H Q E h=>?_) (λcdv A outer s H vs Q E hr h=>?_)
 . obtain⟨a,b,ns,n,rfl,_⟩:=h
   rfl
 obtain⟨a,b,ns,n,rfl,g,hn,q⟩:=h
 have nd:=R9.nd
 refine⟨_,(aB (aV (aU bK (aL cH (bF gh (hr.mono (by omega)) rfl bB.m bB.F.kp bB.b .nil bC (aj (pv 0) (aj (pv 1) ao))) ak) ak (aQ _)) (aC (bf (dR (aj bJ ao)))) aZ)
  (aC (bf (dR (aj bJ ao))))),?_⟩
 refine⟨_,rfl,_,rfl,a,b,ns,n,rfl,g,hn,λr H1 r0 r1 s1 h1=>?_⟩
 refine⟨_,_,rfl,rfl,(by show(0:Int)<_;decide),rfl,_,rfl,?_⟩
 have fin:∀(x:Str) (k:Kd),(∀(p:Addr) (H2:Hp),H2 p=some (.tup [.str x])->KA H2 (.ref p) k)->k.dep<=1->fC k->k.W->∀p,H1 p=none->Q (.ref p) (upd H1 p (.tup [.str x])):=λx k hk hd hp hw p hpn=>
  q _ k _ (s1.trans (SB.new hpn)) (by rw[au (aR h1 hpn)];exact h1) (hk p _ aD) hd hp hw
 refine cu (λc=>?_) (λc=>?_)
 . exact⟨dF,λp hp=>fin _ .num (λp H2 e=>by unfold KA;exact⟨p,rfl,e⟩) (Nat.le_refl _) trivial (by unfold Kd.W;trivial) p hp⟩
 . exact⟨dF,λp hp=>fin _ .bW (λp H2 e=>by unfold KA;exact⟨p,rfl,e⟩) (Nat.le_refl _) trivial (by unfold Kd.W;trivial) p hp⟩
theorem R_:b_ ["_law_script","_law_at","_law_m","_law_cell"] ["_law_script","_law_at"] (aM (top 31)):=cI
theorem adq (T:Tb mg)(j7:Dn K mg "_law_number" ["_law_script","_law_at"] (top 31) yW yX)(bB:Dn K mg "_law_next" ["_law_script","_law_at"] (top 30) fJ fL)(gh:aH P w K mg base aP (1) fJ fL ["_law_script","_law_at"] (vO K)):aH P w K mg base aP (2) yW yX ["_law_script","_law_at"] (R4 K):=by
 refine j7.F.ok R_ (λvs H Q E h=>?_) (λcdv A outer s H vs Q E hr h=>?_)
 . obtain⟨a,b,ns,n,rfl,_⟩:=h
   rfl
 obtain⟨a,b,ns,n,rfl,g,hn,q⟩:=h
 have nd:=R_.nd
 refine⟨_,(aB (aW (i:=2) nd rfl (Or.inl rfl) (bF gh (hr.mono (by omega)) rfl bB.m bB.F.kp bB.b .nil bC (aj (pv 0) (aj (pv 1) ao))))
  (aB (aW (i:=3) nd rfl (Or.inl rfl) ak)
  (aB (aV (aU rR (bN gG (by rfl) T.dY PySem.boot_len (aj (pv 0) ao)) ak (aQ _)) (aC (aW (i:=3) nd rfl (Or.inl rfl) (aJ bh (pv 0) (aL cH (aJ bh (pv 1) ak (λ_ _=>rfl)) (bN gG (by rfl) T.dY PySem.boot_len (aj (pv 0) ao))) (λ_ _=>rfl)))) aZ)
  (aB (aV (aU bK (aL cH (pv 2) ak) ak (aQ _)) (aC (bf (aL mQ (aL cH (aL gU (pv 2) ak) ak) ak))) aZ)
  (aC (bf (aL mQ (aL cH (aL gC (aL cH (pv 3) (aL xT ak ak)) (aL mR (pv 2) (aL xT ak ak))) (aL mR ak (aL xT ak ak))) (aL xT ak ak)))))))),?_⟩
 refine⟨_,rfl,_,rfl,a,b,ns,n,rfl,g,hn,λH1 s1 h1=>?_⟩
 have g1:=g.go s1 h1 (by omega)
 have hS:=g1.oV.sq
 have r0:=Dv ns (n+1)
 have r1:=Dw ns (n+1)
 have hl:(ns.map V.int).length=ns.length:=List.length_map _
 have hq:∀e,num ns (n+1)=e->Q (.int e) H1:=λe he=>by rw[<-he];exact q _ s1 h1
 unfold num at hq
 refine⟨_,rfl,a,_,rfl,.inl hS,_,_,rfl,rfl,_,rfl,?_⟩
 have pw:BK 10 40:=⟨by decide,by decide,by decide⟩
 have Sd:BK 10 29:=⟨by decide,by decide,by decide⟩
 refine cu (λc=>?_) (λc=>?_)
 . have c':(0:Int)<((ns.map V.int).length:Nat):=of_decide_eq_true c
   rw[hl] at c'
   have i0:=Int.emod_nonneg (n+1) (show(ns.length:Int)≠0 by omega)
   have i1:=Int.emod_lt_of_pos (n+1) c'
   have hz:dj (ns.map V.int) ((n+1) % (((ns.map V.int).length:Nat):Int))=some (.int (cellAt ns (n+1))):=by
    rw[hl,int_at i0 i1]
    unfold cellAt
    rw[if_pos (by omega)]
   refine⟨_,rfl,_,rfl,b,_,_,_,rfl,rfl,aq.of h1,rfl,_,rfl,a,_,rfl,.inl hS,_,_,rfl,rfl,by rw[hl];exact c',a,_,_,_,rfl,rfl,hS,hz,?_⟩
   refine⟨_,rfl,_,_,rfl,rfl,(by show(0:Int)<_;decide),rfl,_,rfl,cu (λc2=>?_) (λc2=>?_)⟩
   . have c3:nx ns (n+1) % 3=0:=by
      have:=of_decide_eq_true c2
      injection this
     refine⟨_,rfl,_,_,rfl,rfl,⟨by decide,by decide⟩,_,_,rfl,rfl,(by show(0:Int)<_;decide),_,_,rfl,rfl,hq _ (by rw[if_pos c3])⟩
   . have c3:¬nx ns (n+1) % 3=0:=λz=>c2 (decide_eq_true (show V.int (nx ns (n+1) % 3)=V.int 0 by rw[z]))
     refine⟨_,rfl,_,_,rfl,rfl,pw,_,_,rfl,rfl,(by show(0:Int)<_;decide),_,rfl,_,_,rfl,rfl,Sd,_,_,rfl,rfl,.inl ⟨by omega,by omega⟩,_,_,rfl,rfl,_,_,rfl,rfl,pw,_,_,rfl,rfl,.inl ⟨by decide,by decide⟩,_,_,rfl,rfl,(by show(0:Int)<_;decide),_,_,rfl,rfl,pw,_,_,rfl,rfl,hq _ (by rw[if_neg c3];rfl)⟩
 . have c':¬(0:Int)<((ns.map V.int).length:Nat):=λz=>c (decide_eq_true z)
   rw[hl] at c'
   have hz:cellAt ns (n+1)=0:=by
    unfold cellAt
    rw[if_neg (by omega)]
   refine⟨_,rfl,_,_,rfl,rfl,(by show(0:Int)<_;decide),rfl,_,rfl,cu (λc2=>?_) (λc2=>?_)⟩
   . have c3:nx ns (n+1) % 3=0:=by
      have:=of_decide_eq_true c2
      injection this
     refine⟨_,rfl,_,_,rfl,rfl,⟨by decide,by decide⟩,_,_,rfl,rfl,(by show(0:Int)<_;decide),_,_,rfl,rfl,hq _ (by rw[if_pos c3])⟩
   . have c3:¬nx ns (n+1) % 3=0:=λz=>c2 (decide_eq_true (show V.int (nx ns (n+1) % 3)=V.int 0 by rw[z]))
     refine⟨_,rfl,_,_,rfl,rfl,pw,_,_,rfl,rfl,(by show(0:Int)<_;decide),_,rfl,_,_,rfl,rfl,Sd,_,_,rfl,rfl,.inl ⟨by omega,by omega⟩,_,_,rfl,rfl,_,_,rfl,rfl,pw,_,_,rfl,rfl,.inl ⟨by decide,by decide⟩,_,_,rfl,rfl,(by show(0:Int)<_;decide),_,_,rfl,rfl,pw,_,_,rfl,rfl,hq _ (by rw[if_neg c3,hz];rfl)⟩
theorem sV:jN.length=93:=by decide +kernel
theorem Sg {z:Int}(h0:0<=z)(h1:z<93):dj jN.cps.toList z=some (jN.cps.toList.getD z.toNat 0):=by
 have hl:jN.cps.toList.length=93:=by
  have:=sV
  rw[Array.length_toList];exact this
 unfold dj mW
 rw[hl,if_pos h0,if_pos (show z<((93:Nat):Int) by omega)]
 show jN.cps.toList[z.toNat]? =_
 rw[List.getD_eq_getElem?_getD,List.getElem?_eq_getElem (by omega)]
 rfl
theorem Ed (m:Int):∀k,(sJ m k).length=k
 |0=>rfl
 |k+1=>by
  show(sJ m k++_).length=_
  rw[RL,Ed m k];rfl
noncomputable def σW (a b:Addr) (m:Int) (k:Int) (w:Str) (y z:Option V):St:=[some (.ref a),some (.ref b),some (.str jN),some (.int m),some (.int k),some (.str w),y,z]
theorem Sh:b_ ["_law_script","_law_at","_law_signs","_law_m","_law_many","_law_word_here","_law_k","_law_place"] ["_law_script","_law_at"] (aM (top 32)):=cI
theorem adt (T:Tb mg)(j8:Dn K mg "_law_word" ["_law_script","_law_at"] (top 32) yZ za)(bB:Dn K mg "_law_next" ["_law_script","_law_at"] (top 30) fJ fL)(gh:aH P w K mg base aP (1) fJ fL ["_law_script","_law_at"] (vO K)):aH P w K mg base aP (2) yZ za ["_law_script","_law_at"] (R5 K):=by
 refine j8.F.ok Sh (λvs H Q E h=>?_) (λcdv A outer s H vs Q E hr h=>?_)
 . obtain⟨a,b,ns,n,rfl,_⟩:=h
   rfl
 obtain⟨a,b,ns,n,rfl,g,hn,q⟩:=h
 have nd:=Sh.nd
 refine⟨_,(aB (aW (i:=2) nd rfl (Or.inl rfl) bJ)
  (aB (aW (i:=2) nd rfl (Or.inl rfl) (aL uW (pv 2) bJ))
  (aB (aW (i:=3) nd rfl (Or.inl rfl) (bF gh (hr.mono (by omega)) rfl bB.m bB.F.kp bB.b .nil bC (aj (pv 0) (aj (pv 1) ao))))
  (aB (aW (i:=4) nd rfl (Or.inl rfl) (aL cH (pv 3) ak))
  (aB (aV (aU bK (aL cH (aL gU (pv 3) ak) ak) ak (aQ _)) (aC (aW (i:=4) nd rfl (Or.inl rfl) ak)) aZ)
  (aB (aW (i:=5) nd rfl (Or.inl rfl) bJ)
  (aB (fY PassesOwn.never rfl (Bu rfl T.vM (aj (pv 4) ao)) (cG (i:=6) nd rfl (Or.inl rfl)) (aB (aW (i:=7) nd rfl (Or.inl rfl) (aL gC (aL gU (pv 3) ak) (aL mR (aL mR (pv 6) (pv 6)) (aL cH (aL gU (pv 3) ak) ak))))
  (aC (aW (i:=5) nd rfl (Or.inl rfl) (aL uW (pv 5) (aJ u5 (pv 2) (aL cH (pv 7) (bN aa4 (by rfl) T.dY PySem.boot_len (aj (pv 2) ao))) (λ_ _=>rfl)))))))
  (aC (bf (pv 5)))))))))),?_⟩
 have hz1:(jN).length<=sizeLine:=by rw[sV];decide
 refine⟨_,rfl,_,_,rfl,rfl,hz1,?_⟩
 refine⟨_,rfl,_,rfl,a,b,ns,n,rfl,g,hn,λH1 s1 h1=>?_⟩
 have r0:=Dv ns (n+1)
 have r1:=Dw ns (n+1)
 have hq:∀e,bW ns (n+1)=e->Q (.str e) H1:=λe he=>by rw[<-he];exact q _ s1 h1
 unfold bW at hq
 generalize nx ns (n+1)=m at *
 refine⟨_,rfl,_,_,rfl,rfl,(by show(0:Int)<_;decide),?_⟩
 refine⟨_,rfl,_,_,rfl,rfl,⟨by decide,by decide⟩,_,_,rfl,rfl,(by show(0:Int)<_;decide),rfl,_,rfl,cu (λc=>?_) (λc=>?_)⟩
 . have c3:m / 5 % 29=0:=by
    have:=of_decide_eq_true c
    injection this
   rw[if_pos c3] at hq
   refine⟨_,rfl,_,rfl,by decide,by decide,uT (n:=Int.toNat 40) (λi σ H'=>∃y z,σ=σW a b m 40 (sJ m i) y z/\H'=H1) ⟨_,_,rfl,rfl⟩ ?_ ?_⟩
   . rintro i σ H' hi ⟨y,z,rfl,rfl⟩
     have hi:i<40:=hi
     have e0:(0:Int)+(i:Int)=(i:Int):=by omega
     have l3:0<=(m / 145+((0:Int)+(i:Int)) * ((0:Int)+(i:Int)) * (m / 7 % 3)) % 93/\(m / 145+((0:Int)+(i:Int)) * ((0:Int)+(i:Int)) * (m / 7 % 3)) % 93<93:=⟨Int.emod_nonneg _ (by decide),Int.emod_lt_of_pos _ (by decide)⟩
     refine⟨_,rfl,_,_,rfl,rfl,⟨by decide,by decide⟩,_,rfl,_,rfl,_,_,rfl,rfl,.inl ⟨by omega,by omega⟩,_,rfl,_,_,rfl,rfl,⟨by decide,by decide⟩,_,_,rfl,rfl,(by show(0:Int)<_;decide),_,_,rfl,rfl,.inr ⟨by omega,by omega⟩,_,_,rfl,rfl,?_⟩
     refine⟨_,rfl,_,rfl,_,rfl,_,rfl,_,rfl,hz1,_,_,rfl,rfl,(by show(0:Int)<((jN.length:Nat):Int);rw[sV];decide),jN,_,_,rfl,rfl,hz1,(by rw[sV];exact Sg l3.1 l3.2),_,_,rfl,rfl,?_,?_⟩
     . rw[Ed]
       show i+1<=sizeLine
       exact Nat.le_of_lt (dX (by omega))
     . rw[e0]
       exact⟨_,_,rfl,rfl⟩
   . rintro σ H' ⟨y,z,rfl,rfl⟩
     exact⟨_,rfl,hq _ rfl⟩
 . have c3:¬m / 5 % 29=0:=λz=>c (decide_eq_true (show V.int (m / 5 % 29)=V.int 0 by rw[z]))
   rw[if_neg c3] at hq
   have h5:0<=m % 5/\m % 5<5:=by omega
   refine⟨_,rfl,_,rfl,by omega,by omega,uT (n:=Int.toNat (m % 5)) (λi σ H'=>∃y z,σ=σW a b m (m % 5) (sJ m i) y z/\H'=H1) ⟨_,_,rfl,rfl⟩ ?_ ?_⟩
   . rintro i σ H' hi ⟨y,z,rfl,rfl⟩
     have hi:i<40:=by omega
     have e0:(0:Int)+(i:Int)=(i:Int):=by omega
     have l3:0<=(m / 145+((0:Int)+(i:Int)) * ((0:Int)+(i:Int)) * (m / 7 % 3)) % 93/\(m / 145+((0:Int)+(i:Int)) * ((0:Int)+(i:Int)) * (m / 7 % 3)) % 93<93:=⟨Int.emod_nonneg _ (by decide),Int.emod_lt_of_pos _ (by decide)⟩
     refine⟨_,rfl,_,_,rfl,rfl,⟨by decide,by decide⟩,_,rfl,_,rfl,_,_,rfl,rfl,.inl ⟨by omega,by omega⟩,_,rfl,_,_,rfl,rfl,⟨by decide,by decide⟩,_,_,rfl,rfl,(by show(0:Int)<_;decide),_,_,rfl,rfl,.inr ⟨by omega,by omega⟩,_,_,rfl,rfl,?_⟩
     refine⟨_,rfl,_,rfl,_,rfl,_,rfl,_,rfl,hz1,_,_,rfl,rfl,(by show(0:Int)<((jN.length:Nat):Int);rw[sV];decide),jN,_,_,rfl,rfl,hz1,(by rw[sV];exact Sg l3.1 l3.2),_,_,rfl,rfl,?_,?_⟩
     . rw[Ed]
       show i+1<=sizeLine
       exact Nat.le_of_lt (dX (by omega))
     . rw[e0]
       exact⟨_,_,rfl,rfl⟩
   . rintro σ H' ⟨y,z,rfl,rfl⟩
     exact⟨_,rfl,hq _ rfl⟩
theorem adu (n:Nat)(h:n<=1000):Builtin.Str.tooLong n=false:=by
 have:n<=sizeLine:=Nat.le_of_lt (dX h)
 unfold Builtin.Str.tooLong
 exact decide_eq_false (by omega)
theorem adv (f:Nat->Str)(i:Nat):((List.range (i+1)).map f).map V.str=((List.range i).map f).map V.str++[V.str (f i)]:=by
 rw[List.range_succ,List.map_append,List.map_append];rfl
noncomputable abbrev abc:Str:="abcdefghijklmnopqrstuvwxyz"
noncomputable abbrev stemOf (r:Int):Str:=lt (r / 6 % 26)++lt (r / 156 % 26)
noncomputable def σN (a b:Addr) (m:Nat) (r:Int) (p:Addr) (y z:Option V):St:=
 [some (.ref a),some (.ref b),some (.int m),some (.str abc),some (.int r),some (.int (2 * (r % 6)+1)),some (.str (stemOf r)),some (.int (r / 4056 % 3)),some (.ref p),y,z]
theorem Sq:b_ ["_law_script","_law_at","_law_many","_law_letters","_law_m","_law_step","_law_stem","_law_cut","_law_names_here","_law_k","_law_sign"] ["_law_script","_law_at","_law_many"] (aM (top 33)):=cI
theorem adw (T:Tb mg)(oX:Dn K mg "_law_names" ["_law_script","_law_at","_law_many"] (top 33) Ef Eh)(bB:Dn K mg "_law_next" ["_law_script","_law_at"] (top 30) fJ fL)(gh:aH P w K mg base aP (1) fJ fL ["_law_script","_law_at"] (q9 K)):aH P w K mg base aP (2) Ef Eh ["_law_script","_law_at","_law_many"] (R6 K):=by
 refine oX.F.ok Sq (λvs H Q E h=>?_) (λcdv A outer s H vs Q E hr h=>?_)
 . obtain⟨a,b,ns,n,m,rfl,_⟩:=h
   rfl
 obtain⟨a,b,ns,n,m,rfl,hm,g,hn,q⟩:=h
 have nd:=Sq.nd
 refine⟨_,(aB (aW (i:=3) nd rfl (Or.inl rfl) bJ)
  (aB (aW (i:=4) nd rfl (Or.inl rfl) (bF gh (hr.mono (by omega)) rfl bB.m bB.F.kp bB.b .nil bC (aj (pv 0) (aj (pv 1) ao))))
  (aB (aW (i:=5) nd rfl (Or.inl rfl) (aJ bh (cL (aj ak (aj ak (aj ak (aj ak (aj ak (aj ak ao))))))) (aL cH (pv 4) ak) (λ_ _=>rfl)))
  (aB (aW (i:=6) nd rfl (Or.inl rfl) (aL uW (aJ u5 (pv 3) (aL cH (aL gU (pv 4) ak) ak) (λ_ _=>rfl)) (aJ u5 (pv 3) (aL cH (aL gU (pv 4) ak) ak) (λ_ _=>rfl))))
  (aB (aW (i:=7) nd rfl (Or.inl rfl) (aL cH (aL gU (pv 4) ak) ak))
  (aB (aW (i:=8) nd rfl (Or.inl rfl) (cL ao))
  (aB (fY PassesOwn.never rfl (Bu rfl T.vM (aj (pv 2) ao)) (cG (i:=9) nd rfl (Or.inl rfl)) (aC (aV (aU bK (aL cH (aL gU (pv 4) ak) ak) ak (aQ _)) (aC (jj (mY PySem.F.plainAttrs_list PySem.F.slot_list_append PySem.F.type_list_append u6 (pv 8) (aj (aL ab5 (aJ u5 (pv 3) (aL cH (aL gU (pv 4) ak) ak) (λ_ _=>rfl)) (aL gC (pv 9) ak)) ao)))) (aB (aW (i:=10) nd rfl (Or.inl rfl) (aJ u5 (pv 3) (aL cH (aL gC (aL gU (pv 4) ak) (aL mR (pv 9) (pv 5))) ak) (λ_ _=>rfl)))
  (aC (jj (mY PySem.F.plainAttrs_list PySem.F.slot_list_append PySem.F.type_list_append u6 (pv 8) (aj (aL uW (aL uW (uZ Qz (pv 6) uX (uY (pv 7))) (pv 10)) (uZ Qz (pv 6) (uY (pv 7)) uX)) ao))))))))
  (aC (bf (bN Qw (by rfl) T.DY boot_sorted (aj (pv 8) ao))))))))))),?_⟩
 refine⟨_,rfl,_,rfl,a,b,ns,n,rfl,g,hn,λr H1 r0 r1 s1 h1=>?_⟩
 have hz:(abc).length<=sizeLine:=by decide +kernel
 have m6:0<=r % 6/\r % 6<6:=by omega
 have l1:0<=r / 6 % 26/\r / 6 % 26<26:=by omega
 have l2:0<=r / 156 % 26/\r / 156 % 26<26:=by omega
 refine⟨Og,λp1 hp1=>?_⟩
 refine⟨_,rfl,_,_,rfl,rfl,(by show(0:Int)<_;decide),p1,_,_,_,rfl,rfl,aq.of aD,ac_ m6.1 m6.2,?_⟩
 have s2:SB b H (upd H1 p1 (.lst [.int 1,.int 3,.int 5,.int 7,.int 9,.int 11])):=s1.trans (SB.new hp1)
 have h2:upd H1 p1 (.lst [.int 1,.int 3,.int 5,.int 7,.int 9,.int 11]) b=some (.lst [.int (n+1)]):=by rw[au (aR h1 hp1)];exact h1
 generalize upd H1 p1 (.lst [.int 1,.int 3,.int 5,.int 7,.int 9,.int 11])=H2 at s2 h2
 refine⟨_,rfl,_,rfl,_,_,rfl,rfl,⟨by decide,by decide⟩,_,_,rfl,rfl,(by show(0:Int)<_;decide),_,_,_,rfl,rfl,hz,yQ l1.1 l1.2,_,rfl,_,rfl,_,_,rfl,rfl,⟨by decide,by decide⟩,_,_,rfl,rfl,(by show(0:Int)<_;decide),_,_,_,rfl,rfl,hz,yQ l2.1 l2.2,
  _,_,rfl,rfl,gO,?_⟩
 refine⟨_,rfl,_,_,rfl,rfl,⟨by decide,by decide⟩,_,_,rfl,rfl,(by show(0:Int)<_;decide),?_⟩
 refine⟨wZ,λp hp=>?_⟩
 have hpb:p≠b:=λz=>by rw[z,h2] at hp;cases hp
 have em:Int.toNat (m:Int)=m:=by omega
 refine⟨_,rfl,_,rfl,by omega,by omega,uT (n:=Int.toNat (m:Int)) (λi σ H'=>∃y z,σ=σN a b m r p y z/\SB b H H'/\H' b=some (.lst [.int (n+1)])/\H' p=some (.lst (((List.range i).map (nameAt r)).map V.str))) ?_ ?_ ?_⟩
 . exact⟨_,_,rfl,s2.trans (SB.new hp),by rw[au (aR h2 hp)];exact h2,aD⟩
 . rintro i σ H' hi ⟨y,z,rfl,sb,hb',hp'⟩
   rw[em] at hi
   have hlen:(((List.range i).map (nameAt r)).map V.str).length<sizeLine:=by
    rw[List.length_map,List.length_map,List.length_range]
    exact dX (by omega)
   have next:∀(v:Str) (y' z':Option V),v=nameAt r i->∃y z,σN a b m r p y' z'=σN a b m r p y z/\SB b H (upd H' p (.lst (((List.range i).map (nameAt r)).map V.str++[V.str v])))/\
    upd H' p (.lst (((List.range i).map (nameAt r)).map V.str++[V.str v])) b=some (.lst [.int (n+1)])/\upd H' p (.lst (((List.range i).map (nameAt r)).map V.str++[V.str v])) p=some (.lst (((List.range (i+1)).map (nameAt r)).map V.str)):=by
    rintro v y' z' rfl
    refine⟨y',z',rfl,λc o hc hh=>?_,by rw[au (Ne.symm hpb)];exact hb',by rw[aD,adv]⟩
    by_cases e:c=p
    . subst e
      have:=s2 c o hc hh
      rw[hp] at this;cases this
    . rw[au e];exact sb c o hc hh
   have e0:(0:Int)+(i:Int)=(i:Int):=by omega
   refine⟨_,rfl,_,_,rfl,rfl,⟨by decide,by decide⟩,_,_,rfl,rfl,(by show(0:Int)<_;decide),rfl,_,rfl,?_⟩
   refine cu (λc=>?_) (λc=>?_)
   . have c':r / 12168 % 4=0:=by
      have:=of_decide_eq_true c
      injection this
     refine⟨_,rfl,.inl ⟨rfl,_,aq.of hp'⟩,_,rfl,_,rfl,_,_,rfl,rfl,⟨by decide,by decide⟩,_,_,rfl,rfl,(by show(0:Int)<_;decide),_,_,_,rfl,rfl,hz,yQ l1.1 l1.2,_,rfl,_,_,rfl,rfl,_,_,rfl,rfl,?_,p,_,_,rfl,rfl,hp',hlen,?_⟩
     . rw[e0]
       exact adf (yP _) (by omega) adu
     . refine next _ _ _ ?_
       rw[e0]
       unfold nameAt
       rw[if_pos c']
       rfl
   . have c':¬r / 12168 % 4=0:=λz=>c (decide_eq_true (show V.int (r / 12168 % 4)=V.int 0 by rw[z]))
     have l3:0<=(r / 156+((0:Int)+(i:Int)) * (2 * (r % 6)+1)) % 26/\(r / 156+((0:Int)+(i:Int)) * (2 * (r % 6)+1)) % 26<26:=⟨Int.emod_nonneg _ (by decide),Int.emod_lt_of_pos _ (by decide)⟩
     have ls:(stemOf r).length<=sizeLine:=by show 2<=sizeLine;decide
     refine⟨_,rfl,_,rfl,_,_,rfl,rfl,⟨by decide,by decide⟩,_,rfl,_,rfl,_,_,rfl,rfl,.inl ⟨by omega,by omega⟩,_,_,rfl,rfl,_,_,rfl,rfl,(by show(0:Int)<_;decide),_,_,_,rfl,rfl,hz,yQ l3.1 l3.2,?_⟩
     have k1:=Txt.slice_le (stemOf r) none (some (r / 4056 % 3))
     have k2:=Txt.slice_le (stemOf r) (some (r / 4056 % 3)) none
     have k0:(stemOf r).length=2:=rfl
     rw[k0] at k1 k2
     refine⟨_,rfl,.inl ⟨rfl,_,aq.of hp'⟩,_,rfl,_,rfl,_,rfl,_,rfl,ls,_,rfl,_,_,rfl,rfl,?_,_,rfl,_,rfl,_,rfl,_,rfl,ls,_,_,rfl,rfl,?_,p,_,_,rfl,rfl,hp',hlen,?_⟩
     . show _+1<=sizeLine
       exact Nat.le_trans (Nat.add_le_add_right k1 1) (by decide)
     . rw[RL]
       show _+1+_<=sizeLine
       exact Nat.le_trans (Nat.add_le_add (Nat.add_le_add_right k1 1) k2) (by decide)
     . refine next _ _ _ ?_
       rw[e0]
       unfold nameAt
       rw[if_neg c']
       rfl
 . rintro σ H' ⟨y,z,rfl,sb,hb',hp'⟩
   rw[em] at hp'
   have hlen:((List.range m).map (nameAt r)).length=m:=by rw[List.length_map,List.length_range]
   refine⟨_,rfl,p,_,rfl,aq.of hp',by rw[hlen];omega,λp' ss' hp2 hperm Ei=>?_⟩
   refine q p' ss' _ (sb.trans (SB.new hp2)) (by rw[au (aR hb' hp2)];exact hb') (λz=>by rw[z,hb'] at hp2;cases hp2) (by cases z:H p' with|none=>rfl|some o=>rw[sb _ _ (λy=>by rw[y,hb'] at hp2;cases hp2) z] at hp2;cases hp2) aD (hperm.length_eq.trans hlen) (hperm.nodup_iff.mpr (names_nodup r0 hm)) (DX Ei) λx hx=>?_
   obtain⟨i,hi,rfl⟩:=List.mem_map.mp (hperm.mem_iff.mp hx)
   exact adk (by have:=List.mem_range.mp hi;omega)
noncomputable def Fs.zf:Fs->Prop
 | .nil=>True
 | .cons _ k r=>fC k/\r.zf
theorem Fs.Ss:∀{fs:Fs}{i:Nat}{x:Str}{k:Kd},fs.zf->fs.at i=some (x,k)->fC k
 | .nil,_,_,_,_,h=>by cases h
 | .cons _ _ _,0,_,_,w,h=>by cases h;exact w.1
 | .cons _ _ r,i+1,_,_,w,h=>Fs.Ss (fs:=r) (i:=i) w.2 h
theorem Sv (ns:List Int)(x:Str)(k:Kd)(room:Nat):∀(fs:Fs) (n:Int),bY ns (fs.snoc x k) room n=((bY ns fs room n).1.snoc x (val ns k room (bY ns fs room n).2).1,(val ns k room (bY ns fs room n).2).2)
 | .nil,n=>by
   show bY ns (.cons x k .nil) room n=_
   simp only[bY,Ds.snoc]
 | .cons y q r,n=>by
   show bY ns (.cons y q (r.snoc x k)) room n=_
   simp only[bY,Ds.snoc]
   rw[Sv ns x k room r]
theorem Sw (g:Int->D × Int):∀(m:Nat) (n:Int),times g (m+1) n=((times g m n).1.snoc "" (g (times g m n).2).1,(g (times g m n).2).2)
 |0,n=>by simp only[times,Ds.snoc]
 |m+1,n=>by
  have ih:=Sw g m (g n).2
  show(Ds.cons "" (g n).1 (times g (m+1) (g n).2).1,(times g (m+1) (g n).2).2)=_
  rw[ih]
  simp only[times,Ds.snoc]
theorem Ej {g h:Int->D × Int}(e:∀n,g n=h n):∀(m:Nat) (n:Int),times g m n=times h m n
 |0,n=>rfl
 |m+1,n=>by
  simp only[times]
  rw[e n,Ej e m]
theorem oY {ns:List Int}{f:Nat->Int->D × Int}:∀(fu room:Nat) (n:Int),room<2 ^ fu->dh ns f (fu+1) room n=dh ns f (fu+2) room n
 |0,room,n,h=>by
  have e:room=0:=by simpa using h
  subst e
  have e0:(nx ns ((f (0 / 2) n).2+1) % (((0:Nat):Int)+1)).toNat=0:=by
   have:nx ns ((f (0 / 2) n).2+1) % (((0:Nat):Int)+1)=0:=by
    show _ % (1:Int)=0
    exact Int.emod_one _
   rw[this];rfl
  unfold dh
  rw[e0]
  rfl
 |fu+1,room,n,h=>by
  have ih:=λm=>oY (ns:=ns) (f:=f) fu (room / 2) m (by rw[Nat.pow_succ] at h;omega)
  show(pairD (f (room / 2) n).1 (.lst (times (dh ns f (fu+1) (room / 2)) _ _).1),(times (dh ns f (fu+1) (room / 2)) _ _).2)=(pairD (f (room / 2) n).1 (.lst (times (dh ns f (fu+2) (room / 2)) _ _).1),(times (dh ns f (fu+2) (room / 2)) _ _).2)
  rw[Ej ih]
theorem adx (ns:List Int)(k:Kd)(room:Nat)(n:Int)(h:room<8):val ns (.tree k) room n=
 (pairD (val ns k (room / 2) n).1 (.lst (times (val ns (.tree k) (room / 2)) (nx ns ((val ns k (room / 2) n).2+1) % ((room:Int)+1)).toNat ((val ns k (room / 2) n).2+1)).1),
   (times (val ns (.tree k) (room / 2)) (nx ns ((val ns k (room / 2) n).2+1) % ((room:Int)+1)).toNat ((val ns k (room / 2) n).2+1)).2):=by
 have e:∀m,val ns (.tree k) (room / 2) m=dh ns (val ns k) 3 (room / 2) m:=λm=>by
  show dh ns (val ns k) 4 (room / 2) m=_
  exact(oY 2 (room / 2) m (by show _<4;omega)).symm
 rw[Ej e]
 simp only[val,dh]
noncomputable def mu:Kd->Nat->Nat
 | .rows key by_ fs,room=>(2 * (fs.dep+1)+1) * 8+room
 |k,room=>(2 * k.dep) * 8+room
theorem Sx (k:Kd)(room:Nat):mu k room<=(2 * k.dep+1) * 8+room:=by
 cases k <;> simp only[mu,Kd.dep] <;> omega
theorem Sy {k k':Kd}{room ady:Nat}(h:k.dep<k'.dep)(h8:room<8):mu k room<mu k' ady:=by
 have:=Sx k room
 cases k' <;> simp only[mu,Kd.dep] at * <;> omega
noncomputable def gr (room:Nat):Nat:=if room=0 then 1 else if room=1 then 9 else if room<4 then 73 else 585
noncomputable def kc:Kd->Nat->Nat
 | .tree k,room=>(k.cB+1) * gr room
 |k,_=>k.cB
theorem El (room:Nat):1<=gr room/\gr room<=585:=by
 unfold gr
 by_cases h0:room=0
 . rw[if_pos h0];omega
 . rw[if_neg h0]
   by_cases h1:room=1
   . rw[if_pos h1];omega
   . rw[if_neg h1]
     by_cases h2:room<4
     . rw[if_pos h2];omega
     . rw[if_neg h2];omega
theorem adz (room:Nat):gr room<=585:=(El room).2
theorem zj (k:Kd)(room:Nat):kc k room<=k.cB:=by
 cases k with
 |tree k=>exact Nat.mul_le_mul_left _ (adz room)
 |_=>exact Nat.le_refl _
theorem adA {room:Nat}(h1:1<=room)(h8:room<8):1+room * gr (room / 2)<=gr room:=by
 have h:room=1\/room=2\/room=3\/room=4\/room=5\/room=6\/room=7:=by omega
 rcases h with h|h|h|h|h|h|h <;> subst h <;> decide
theorem adB (ns:List Int)(k:Kd)(room:Nat)(n:Int)(h:room<8):n<=(val ns (.tree k) room n).2/\(val ns (.tree k) room n).2<=n+((k.cB+1) * gr room:Nat):=by
 have hf:=λ(room:Nat) (n:Int) (h:room<8)=>oU ns k room n h
 have e:val ns (.tree k) room n=dh ns (val ns k) 4 room n:=by simp only[val]
 rw[e]
 unfold gr
 by_cases h0:room=0
 . rw[if_pos h0,<-oY 2 room n (by omega),<-oY 1 room n (by omega),<-oY 0 room n (by omega)]
   exact sO (N:=k.cB) hf 1 room n h
 . rw[if_neg h0]
   by_cases h1:room=1
   . rw[if_pos h1,<-oY 2 room n (by omega),<-oY 1 room n (by omega)]
     exact sO (N:=k.cB) hf 2 room n h
   . rw[if_neg h1]
     by_cases h2:room<4
     . rw[if_pos h2,<-oY 2 room n (by omega)]
       exact sO (N:=k.cB) hf 3 room n h
     . rw[if_neg h2]
       exact sO (N:=k.cB) hf 4 room n h
theorem Fs.SJ:∀{fs:Fs}{i:Nat}{x:Str}{k:Kd},fs.at i=some (x,k)->(fs.take i).cB+k.cB<=fs.cB
 | .nil,_,_,_,h=>by cases h
 | .cons y q r,0,x,k,h=>by
   cases h
   simp only[Fs.take,Fs.cB];omega
 | .cons y q r,i+1,x,k,h=>by
   have:=Fs.SJ (fs:=r) (i:=i) h
   simp only[Fs.take,Fs.cB];omega
theorem Fs.Em:∀(fs:Fs) (i:Nat),(fs.take i).names=fs.names.take i
 | .nil,i=>by simp[Fs.take,Fs.names]
 | .cons x k r,0=>by simp[Fs.take,Fs.names]
 | .cons x k r,i+1=>by
   show x::(r.take i).names=x::r.names.take i
   rw[Fs.Em r i]
theorem Fs.adC {fs:Fs}{i:Nat}{x:Str}{k:Kd}(nd:fs.names.Nodup)(h:fs.at i=some (x,k)):x ∉ (fs.take i).names:=by
 rw[Fs.Em]
 intro hm
 obtain⟨j,hj,e⟩:=List.getElem_of_mem hm
 have hx:fs.names[i]? =some x:=by rw[Fs.Rn,h];rfl
 obtain⟨hi,ei⟩:=List.getElem?_eq_some_iff.mp hx
 rw[List.length_take] at hj
 rw[List.getElem_take] at e
 have:=(List.getElem_inj nd).mp (e.trans ei.symm)
 omega
theorem zm (ns:List Int)(room:Nat):∀(fs:Fs) (n:Int),(bY ns fs room n).1.names=fs.names
 | .nil,n=>by simp[bY,Ds.names,Fs.names]
 | .cons x k r,n=>by
   simp only[bY,Ds.names,Fs.names]
   rw[zm ns room r]
theorem adD (k:Kd)(room:Nat):16<=mu k room:=by
 have:=k.Dq
 cases k <;> simp only[mu,Kd.dep] at * <;> omega
noncomputable def vP:Kd->Prop
 | .num=>True
 | .bW=>True
 | .gb fs=>fs.zf
 |_=>False
noncomputable def oZ:Kd->Prop
 | .num=>True
 | .bW=>True
 | .gb fs=>fs.zf
 | .tree k=>vP k
 |_=>False
theorem vP.oZ:∀{k:Kd},vP k->oZ k
 | .num,h=>h
 | .bW,h=>h
 | .gb _,h=>h
theorem fC.oZ:∀{k:Kd},fC k->oZ k
 | .num,h=>h
 | .bW,h=>h
noncomputable def σU (a b:Addr) (kv:V) (room:Nat) (x1 x2 x3 x4 x5:Option V):St:=[some (.ref a),some (.ref b),some kv,some (.int room),x1,x2,x3,x4,x5]
theorem SB.vQ {b:Addr}{H H':Hp}{l:List V}(x:SB b H H')(hb:H b=some (.lst l)):Tu H H':=λc xs h=>x c _ (jV h hb (by intro z;cases z)) h
theorem Own.sb {b:Addr}{H₀ H H':Hp}{v:V}{d:D}{fp:List Addr}{l:List V}(h:Own H v d fp)(x:SB b H H')(hb:H b=some (.lst l))(hb0:∃o,H₀ b=some o)(fr:∀c∈fp,H₀ c=none):Own H' v d fp:=
 h.keep (x.vQ hb) d λc hc o e=>x c o (λz=>by
   obtain⟨o',e'⟩:=hb0
   have:=fr c hc
   rw[z,e'] at this;cases this) e
theorem bQ.sb {b:Addr}{H₀ H H':Hp}{v:List (Key × V)}{d:Ds}{fp:List Addr}{l:List V}(h:bQ H v d fp)(x:SB b H H')(hb:H b=some (.lst l))(hb0:∃o,H₀ b=some o)(fr:∀c∈fp,H₀ c=none):bQ H' v d fp:=
 h.keep (x.vQ hb) d λc hc o e=>x c o (λz=>by
   obtain⟨o',e'⟩:=hb0
   have:=fr c hc
   rw[z,e'] at this;cases this) e
theorem aX.sb {b:Addr}{H₀ H H':Hp}{v:List V}{d:Ds}{fp:List Addr}{l:List V}(h:aX H v d fp)(x:SB b H H')(hb:H b=some (.lst l))(hb0:∃o,H₀ b=some o)(fr:∀c∈fp,H₀ c=none):aX H' v d fp:=
 h.keep (x.vQ hb) d λc hc o e=>x c o (λz=>by
   obtain⟨o',e'⟩:=hb0
   have:=fr c hc
   rw[z,e'] at this;cases this) e
theorem SB.fresh {b c:Addr}{H H':Hp}{l:List V}(x:SB b H H')(hb:H' b=some (.lst l))(h:H' c=none):H c=none:=by
 cases e:H c with
 |none=>rfl
 |some o=>rw[x c o (λz=>by rw[z,hb] at h;cases h) e] at h;cases h
noncomputable def sW (K:W.Frag) (N:Nat):Sp:=λvs H Q _=>∃a b ns n kv k,∃room:Nat,vs=[.ref a,.ref b,kv,.int room]/\G0 K H a b ns n/\oZ k/\KA H kv k/\k.W/\room<8/\mu k room<=N/\n+kc k room<=1000000000000/\
 ∀(v:V) (H':Hp) (fp:List Addr),SB b H H'->H' b=some (.lst [.int (val ns k room n).2])->Own H' v (val ns k room n).1 fp->fp.Nodup->(∀c∈fp,H c=none)->Q v H'
theorem En:b_ ["_law_script","_law_at","_law_kind_here","_law_room","_law_made","_law_name","_law_inner","_law_top","_law_many"] ["_law_script","_law_at","_law_kind_here","_law_room"] (aM (top 40)):=cI
theorem adE (T:Tb mg)(cR:Dn K mg "_law_value" ["_law_script","_law_at","_law_kind_here","_law_room"] (top 40) lW lX):aH P w K mg base aP (2 * 0+5) lW lX ["_law_script","_law_at","_law_kind_here","_law_room"] (sW K 0):=by
 refine cR.F.ok En (λvs H Q E h=>?_) (λcdv A outer s H vs Q E hr h=>?_)
 . obtain⟨a,b,ns,n,kv,k,room,rfl,_⟩:=h
   rfl
 obtain⟨a,b,ns,n,kv,k,room,rfl,g,hkn,hk,hW,hroom,zp,_⟩:=h
 exact absurd zp (by have:=adD k room;omega)
theorem adF (N:Nat)(T:Tb mg)(cR:Dn K mg "_law_value" ["_law_script","_law_at","_law_kind_here","_law_room"] (top 40) lW lX)(o7:aH P w K mg base aP (2 * N+5) lW lX ["_law_script","_law_at","_law_kind_here","_law_room"] (sW K N))(bB:Dn K mg "_law_next" ["_law_script","_law_at"] (top 30) fJ fL)(gh:aH P w K mg base aP (1) fJ fL ["_law_script","_law_at"] (vO K))(j7:Dn K mg "_law_number" ["_law_script","_law_at"] (top 31) yW yX)(adG:aH P w K mg base aP (2) yW yX ["_law_script","_law_at"] (R4 K))(j8:Dn K mg "_law_word" ["_law_script","_law_at"] (top 32) yZ za)(adH:aH P w K mg base aP (2) yZ za ["_law_script","_law_at"] (R5 K)):
 aH P w K mg base aP (2 * (N+1)+5) lW lX ["_law_script","_law_at","_law_kind_here","_law_room"] (sW K (N+1)):=by
 refine cR.F.ok En (λvs H Q E h=>?_) (λcdv A outer s H vs Q E hr h=>?_)
 . obtain⟨a,b,ns,n,kv,k,room,rfl,_⟩:=h
   rfl
 obtain⟨a,b,ns,n,kv,k,room,rfl,g,hkn,hk,hW,hroom,zp,hn,q⟩:=h
 have nd:=En.nd
 have hu:=eO hr
 refine⟨_,(aB (aV (aU bK (aJ bV (pv 2) ak (λ_ _=>rfl)) bJ (aQ _)) (aC (bf (bF adG (hr.mono (by omega)) rfl j7.m j7.F.kp j7.b .nil bC (aj (pv 0) (aj (pv 1) ao))))) aZ)
  (aB (aV (aU bK (aJ bV (pv 2) ak (λ_ _=>rfl)) bJ (aQ _)) (aC (bf (bF adH (hr.mono (by omega)) rfl j8.m j8.F.kp j8.b .nil bC (aj (pv 0) (aj (pv 1) ao))))) aZ)
  (aB (aV (aU bK (aJ bV (pv 2) ak (λ_ _=>rfl)) bJ (aQ _)) (aB (aW (i:=4) nd rfl (Or.inl rfl) Cm)
  (aB (fY PassesOwn.never rfl (uQ (aJ bV (pv 2) ak (λ_ _=>rfl))) (lK rfl (eY (cG (i:=5) nd rfl (Or.inl rfl)) (eY (cG (i:=6) nd rfl (Or.inl rfl)) lJ))) (aC (oK hu (pv 4) (pv 5) (bF o7 (hr.mono (by omega)) rfl cR.m cR.F.kp cR.b .nil bC (aj (pv 0) (aj (pv 1) (aj (pv 6) (aj (pv 3) ao))))) rfl)))
  (aC (bf (pv 4))))) aZ)
  (aB (aV (aU bK (aJ bV (pv 2) ak (λ_ _=>rfl)) bJ (aQ _)) (aC bZ) aZ)
  (aB (aV (aU bK (aJ bV (pv 2) ak (λ_ _=>rfl)) bJ (aQ _)) (aB (aW (i:=7) nd rfl (Or.inl rfl) (bF o7 (hr.mono (by omega)) rfl cR.m cR.F.kp cR.b .nil bC (aj (pv 0) (aj (pv 1) (aj (aJ bV (pv 2) ak (λ_ _=>rfl)) (aj (aL gU (pv 3) ak) ao))))))
  (aB (aW (i:=8) nd rfl (Or.inl rfl) (aL cH (bF gh (hr.mono (by omega)) rfl bB.m bB.F.kp bB.b .nil bC (aj (pv 0) (aj (pv 1) ao))) (aL gC (pv 3) ak)))
  (aC (bf (dR (aj (pv 7) (aj (rY (g:=(dG 0)) (tt:=lR) (te:=(BW _ _ _ (gF (fW 1) (gF (fW 2) (gF (fW 3) (gF _ jG)))))) (own:=["_law_k"]) rfl (fZ.of (N:=["_law_script","_law_at","_law_kind_here","_law_room","_law_made","_law_name","_law_inner","_law_top","_law_many"]) (sc:=aM (top 40)) rfl rfl rfl (by decide +kernel)) (Bu rfl T.vM (aj (pv 8) ao)) (λ_ _ _ _ _=>(cG (i:=0) (show(["_law_k","_law_script","_law_at","_law_kind_here","_law_room","_law_made","_law_name","_law_inner","_law_top","_law_many"]:List Str).Nodup by decide +kernel) rfl (Or.inl rfl) (.inr rfl))) (λ_ _ _ _ _=>qR) (λ_ _ _ _ _=>(bF o7 (hr.mono (by omega)) rfl cR.m cR.F.kp cR.b .nil bC (aj (pv 1) (aj (pv 2) (aj (pv 3) (aj (aL gU (pv 4) ak) ao))))))) ao))))))) aZ)
  (aB bZ
  (aC bZ))))))),?_⟩
 have hb:=g.at_
 have hp0:=g.pos
 have hb0:∃o,H b=some o:=⟨_,hb⟩
 have e2:((room / 2:Nat):Int)=(room:Int) / 2:=by omega
 cases k with
 |num=>
  unfold KA at hk
  obtain⟨c,rfl,hc⟩:=hk
  simp only[kc,Kd.cB] at hn
  refine oN rfl hc rfl (by decide +kernel) ?_
  refine⟨_,rfl,_,rfl,a,b,ns,n,rfl,g,by omega,λH1 s1 h1=>?_⟩
  have ev:val ns .num room n=(.int (num ns (n+1)),n+1):=by simp only[val]
  rw[ev] at q
  exact q _ H1 [] s1 h1 (by unfold Own;exact⟨rfl,rfl⟩) List.nodup_nil λc hc=>absurd hc (by simp)
 |bW=>
  unfold KA at hk
  obtain⟨c,rfl,hc⟩:=hk
  simp only[kc,Kd.cB] at hn
  refine jx rfl hc rfl (by decide +kernel) ?_
  refine oN rfl hc rfl (by decide +kernel) ?_
  refine⟨_,rfl,_,rfl,a,b,ns,n,rfl,g,by omega,λH1 s1 h1=>?_⟩
  have ev:val ns .bW room n=(.str (bW ns (n+1)),n+1):=by simp only[val]
  rw[ev] at q
  exact q _ H1 [] s1 h1 (by unfold Own;exact⟨rfl,rfl⟩) List.nodup_nil λc hc=>absurd hc (by simp)
 |gb fs=>
  unfold KA at hk
  obtain⟨pk,pb,xs,rfl,hpk,hpb,hfa⟩:=hk
  unfold Kd.W at hW
  obtain⟨hnd,h12,hfW⟩:=hW
  refine jx rfl hpk rfl (by decide +kernel) ?_
  refine jx rfl hpk rfl (by decide +kernel) ?_
  refine oN rfl hpk rfl (by decide +kernel) ?_
  intro p hp
  have vR:b≠p:=aR hb hp
  have s0:Same H (upd H p (.dK [])):=Same.new hp
  have evl:val ns (.gb fs) room n=(.dct (bY ns fs room n).1,(bY ns fs room n).2):=by simp only[val]
  rw[evl] at q
  simp only[kc,Kd.cB] at hn
  refine⟨_,rfl,pk,_,_,_,rfl,rfl,aN.of (s0 _ _ hpk),rfl,pb,rfl,⟨_,aN.of (s0 _ _ hpb)⟩,xQ (xs:=xs) (λi σ H'=>∃x2 x3 x4 x5 kvs fq,σ=σU a b (.ref pk) room (some (.ref p)) x2 x3 x4 x5/\SB b H H'/\H' b=some (.lst [.int (bY ns (fs.take i) room n).2])/\
   H' p=some (.dK kvs)/\bQ H' kvs (bY ns (fs.take i) room n).1 fq/\fq.Nodup/\∀c∈fq,H c=none/\c≠p) ?_ ?_ ?_ ?_⟩
  . rw[Fs.take_zero]
    refine⟨_,_,_,_,[],[],rfl,SB.of s0,by simp only[bY];exact s0 _ _ hb,aD,?_,List.nodup_nil,λc hc=>absurd hc (by simp)⟩
    simp only[bY]
    unfold bQ
    exact⟨rfl,rfl⟩
  . rintro i σ H' _ ⟨x2,x3,x4,x5,kvs,fq,rfl,kp,_⟩
    exact aN.of (SB.tu kp hb _ _ hpb)
  . rintro i v σ H' hv ⟨x2,x3,x4,x5,kvs,fq,rfl,kp,hb',hp',hO,hfn,hff⟩
    have ni:=SB.tu kp hb
    obtain⟨c,u,nm,k,rfl,hat,hc,hk⟩:=FA.get fs hfa hv
    have cn:=yO ns (fs.take i) room n hroom
    have cb:=Fs.SJ hat
    refine⟨c,_,rfl,aN.of (ni _ _ hc),rfl,_,_,rfl,_,_,rfl,rfl,?_⟩
    refine⟨_,rfl,_,rfl,_,rfl,_,rfl,a,b,ns,(bY ns (fs.take i) room n).2,u,k,room,rfl,g.go kp hb' cn.1,(Fs.Ss hkn hat).oZ,KA.mono ni k hk,Fs.Ro hfW hat,hroom,?_,by have:=zj k room;omega,?_⟩
    . have:mu k room<mu (.gb fs) room:=Sy (by have:=Fs.vG hat;simp only[Kd.dep];omega) hroom
      omega
    intro v2 H2 fp nj hb2 hown Eo vU
    have hp2:H2 p=some (.dK kvs):=nj p _ (Ne.symm vR) hp'
    have vV:=bQ.sb hO nj hb' hb0 λc hc=>(hff c hc).1
    have hnm:nm ∉ (bY ns (fs.take i) room n).1.names:=by rw[zm];exact Fs.adC hnd hat
    have hkl:kvs.length<sizeLine:=by
     rw[bQ.len hO,zm]
     have:(fs.take i).names.length<=fs.names.length:=by rw[Fs.Em,List.length_take];omega
     exact dX (by omega)
    refine⟨_,rfl,_,rfl,p,_,rfl,jH.k (k:=Sum.inr nm) hp2 hkl,?_⟩
    rw[sS (bQ.ac7 hO hnm)]
    have Ep:Mu H2 p:=.inr ⟨_,hp2⟩
    have SM:Tu H2 (upd H2 p (.dK (kvs++[(Sum.inr nm,v2)]))):=Tu.wr λys z=>Ep.vJ ys z
    have SN:∀c∈fp,H c=none/\c≠p:=λc hc=>by
     have z:=vU c hc
     exact⟨SB.fresh kp hb' z,λe=>by rw[e,hp'] at z;cases z⟩
    have sn:=Sv ns nm k room (fs.take i) n
    rw[Fs.take_succ hat,sn]
    refine⟨_,_,_,_,_,fq++fp,rfl,λc o nc e=>?_,by rw[au vR];exact hb2,aD,?_,?_,?_⟩
    . rw[au (aR e hp)]
      exact nj c o nc (kp c o nc e)
    . exact bQ.snoc (hown.keep SM _ λc hc o e=>by rw[au (SN c hc).2];exact e) _ (vV.keep SM _ λc hc o e=>by rw[au (hff c hc).2];exact e)
    . refine List.nodup_append.mpr ⟨hfn,Eo,λc hc d hd=>?_⟩
      intro e
      subst e
      obtain⟨o,eo⟩:=(bQ.alive _ hO c hc).ex
      rw[vU c hd] at eo;cases eo
    . intro c hc
      rcases List.mem_append.mp hc with z|z
      . exact hff c z
      . exact SN c z
  . rintro σ H' ⟨x2,x3,x4,x5,kvs,fq,rfl,kp,hb',hp',hO,hfn,hff⟩
    rw[FA.len fs hfa,Fs.take_all] at hb' hO
    refine⟨_,rfl,q (.ref p) H' (p::fq) kp hb' ?_ ?_ ?_⟩
    . unfold Own
      exact⟨p,kvs,fq,rfl,hp',rfl,hO⟩
    . exact List.nodup_cons.mpr ⟨λhm=>(hff p hm).2 rfl,hfn⟩
    . intro c hc
      rcases List.mem_cons.mp hc with z|z
      . rw[z];exact hp
      . exact(hff c z).1
 |rows key by_ fs=>exact hkn.elim
 |tree k=>
  have hk':=hk
  unfold KA at hk
  obtain⟨pk,u,rfl,hpk,hu'⟩:=hk
  unfold Kd.W at hW
  refine jx rfl hpk rfl (by decide +kernel) ?_
  refine jx rfl hpk rfl (by decide +kernel) ?_
  refine jx rfl hpk rfl (by decide +kernel) ?_
  refine jx rfl hpk rfl (by decide +kernel) ?_
  refine oN rfl hpk rfl (by decide +kernel) ?_
  have ev:=adx ns k room n hroom
  rw[ev] at q
  simp only[kc,Kd.cB] at hn
  have hgr:k.cB+1<=(k.cB+1) * gr room:=Nat.le_mul_of_pos_right _ (El room).1
  have m1:mu k (room / 2)<=N:=by
   have:mu k (room / 2)<mu (.tree k) room:=Sy (by simp only[Kd.dep];omega) (by omega)
   omega
  refine⟨_,rfl,_,rfl,_,rfl,pk,_,_,_,rfl,rfl,aN.of hpk,rfl,_,rfl,_,_,rfl,rfl,⟨by decide,by decide⟩,a,b,ns,n,u,k,room / 2,(by rw[e2];rfl),g,vP.oZ hkn,hu',hW,by omega,m1,by have:=zj k (room / 2);have:k.cB+1<=(k.cB+1) * gr room:=Nat.le_mul_of_pos_right _ (El room).1;omega,?_⟩
  intro vt Ht zq dw hbt hot hnt hft
  have ct:=oU ns k (room / 2) n (by omega)
  generalize hvt:val ns k (room / 2) n=gJ at *
  refine⟨_,rfl,_,rfl,a,b,ns,gJ.2,rfl,g.go dw hbt ct.1,by omega,λH1 s1 h1=>?_⟩
  have g1:G0 K H1 a b ns (gJ.2+1):=(g.go dw hbt ct.1).go s1 h1 (by omega)
  have k1:SB b H H1:=dw.trans s1
  have SQ:Own H1 vt gJ.1 zq:=hot.sb s1 hbt hb0 hft
  refine⟨_,rfl,_,_,rfl,rfl,_,_,rfl,rfl,by omega,?_⟩
  have hm0:=Int.emod_nonneg (nx ns (gJ.2+1)) (show((room:Int)+1)≠0 by omega)
  have hm1:=Int.emod_lt_of_pos (nx ns (gJ.2+1)) (show(0:Int)<(room:Int)+1 by omega)
  have cng:=λm=>adB ns k (room / 2) m (by omega)
  have adL:=λi=>DN (g:=val ns (.tree k) (room / 2)) (N:=(k.cB+1) * gr (room / 2)) cng i (gJ.2+1)
  refine⟨_,rfl,_,rfl,_,rfl,by omega,by omega,λi m ys H'=>m=(nx ns (gJ.2+1) % ((room:Int)+1)).toNat - i/\i<=(nx ns (gJ.2+1) % ((room:Int)+1)).toNat/\ys.length=i/\∃fq,SB b H1 H'/\H' b=some (.lst [.int (times (val ns (.tree k) (room / 2)) i (gJ.2+1)).2])/\
   aX H' ys (times (val ns (.tree k) (room / 2)) i (gJ.2+1)).1 fq/\fq.Nodup/\∀c∈fq,H1 c=none,⟨(nx ns (gJ.2+1) % ((room:Int)+1)).toNat,rfl,Nat.zero_le _,rfl,[],SB.refl _ _,h1,?_,List.nodup_nil,λc hc=>absurd hc (by simp)⟩,?_⟩
  . simp only[times]
    unfold aX
    exact⟨rfl,rfl⟩
  rintro i m ys H' ⟨rfl,hile,hyl,fq,kp,hb',hO,hfn,hff⟩
  by_cases hi:i<(nx ns (gJ.2+1) % ((room:Int)+1)).toNat
  . refine .inr ⟨hi,dX (by omega),λx jL y=>?_⟩
    obtain⟨rfl,rfl⟩:=y
    refine⟨rfl,yes (cZ ?_)⟩
    have hr1:1<=room:=by omega
    have tci:=adL i
    have bnd:(times (val ns (.tree k) (room / 2)) i (gJ.2+1)).2+((k.cB+1) * gr (room / 2):Nat)<=1000000000000:=by
     have a1:=Nat.mul_le_mul_left (k.cB+1) (adA hr1 hroom)
     have a2:(k.cB+1) * (1+room * gr (room / 2))=(k.cB+1)+room * ((k.cB+1) * gr (room / 2)):=by rw[Nat.mul_add,Nat.mul_one,Nat.mul_left_comm]
     have a3:(i+1) * ((k.cB+1) * gr (room / 2))<=room * ((k.cB+1) * gr (room / 2)):=Nat.mul_le_mul_right _ (by omega)
     have a4:(i+1) * ((k.cB+1) * gr (room / 2))=i * ((k.cB+1) * gr (room / 2))+(k.cB+1) * gr (room / 2):=Nat.succ_mul _ _
     omega
    have kA:SB b H jL:=k1.trans kp
    refine⟨_,rfl,_,rfl,_,rfl,_,rfl,_,_,rfl,rfl,⟨by decide,by decide⟩,a,b,ns,(times (val ns (.tree k) (room / 2)) i (gJ.2+1)).2,.ref pk,.tree k,room / 2,(by rw[e2];rfl),g.go kA hb' (by omega),hkn,KA.mono (SB.tu kA hb) _ hk',(by unfold Kd.W;exact hW),by omega,(by simp only[mu] at zp ⊢;omega),bnd,?_⟩
    intro v2 H2 fp nj hb2 hown Eo vU
    have sn:=Sw (val ns (.tree k) (room / 2)) i (gJ.2+1)
    refine⟨(nx ns (gJ.2+1) % ((room:Int)+1)).toNat - (i+1),by omega,rfl,hi,by rw[List.length_append,hyl];rfl,fq++fp,kp.trans nj,by rw[sn];exact hb2,?_,?_,?_⟩
    . rw[sn]
      exact aX.snoc hown _ (aX.sb hO nj hb' ⟨_,h1⟩ hff)
    . refine List.nodup_append.mpr ⟨hfn,Eo,λc hc d hd=>?_⟩
      intro e
      subst e
      obtain⟨o,eo⟩:=(aX.alive _ hO c hc).ex
      rw[vU c hd] at eo;cases eo
    . intro c hc
      rcases List.mem_append.mp hc with z|z
      . exact hff c z
      . exact SB.fresh kp hb' (vU c z)
  . have ei:i=(nx ns (gJ.2+1) % ((room:Int)+1)).toNat:=by omega
    subst ei
    refine .inl ⟨Nat.le_refl _,λpl hpl=>⟨gO,λt ht=>?_⟩⟩
    have sl:Same H' (upd H' pl (.lst ys)):=Same.new hpl
    have st:Same (upd H' pl (.lst ys)) (upd (upd H' pl (.lst ys)) t (.tup [vt,.ref pl])):=Same.new ht
    have sa:=sl.trans st
    have SX:Own H' vt gJ.1 zq:=SQ.sb kp h1 hb0 hft
    have kA:SB b H H':=k1.trans kp
    refine q (.ref t) _ (zq++(pl::fq)) (kA.trans (SB.of sa)) (sa _ _ hb') ?_ ?_ ?_
    . unfold Own
      refine⟨t,_,rfl,aD,?_⟩
      unfold aX
      refine⟨vt,[.ref pl],zq,pl::fq,rfl,rfl,Own.same sa SX,?_⟩
      unfold aX
      refine⟨.ref pl,[],pl::fq,[],rfl,by simp,?_,by unfold aX;exact⟨rfl,rfl⟩⟩
      unfold Own
      exact⟨pl,ys,fq,rfl,st _ _ aD,rfl,aX.same sa hO⟩
    . refine List.nodup_append.mpr ⟨hnt,List.nodup_cons.mpr ⟨λhm=>?_,hfn⟩,λc hc d hd=>?_⟩
      . obtain⟨o,eo⟩:=(aX.alive _ hO pl hm).ex
        rw[hpl] at eo;cases eo
      . intro e
        subst e
        rcases List.mem_cons.mp hd with z|z
        . obtain⟨o,eo⟩:=(Own.alive _ SX c hc).ex
          rw[z,hpl] at eo;cases eo
        . obtain⟨o,eo⟩:=(Own.alive _ SQ c hc).ex
          rw[hff c z] at eo;cases eo
    . intro c hc
      rcases List.mem_append.mp hc with z|z
      . exact hft c z
      . rcases List.mem_cons.mp z with y|y
        . rw[y];exact SB.fresh kA hb' hpl
        . exact SB.fresh k1 h1 (hff c y)
 |jq fs=>exact hkn.elim
theorem S5 (T:Tb mg)(cR:Dn K mg "_law_value" ["_law_script","_law_at","_law_kind_here","_law_room"] (top 40) lW lX)(bB:Dn K mg "_law_next" ["_law_script","_law_at"] (top 30) fJ fL)(j7:Dn K mg "_law_number" ["_law_script","_law_at"] (top 31) yW yX)(j8:Dn K mg "_law_word" ["_law_script","_law_at"] (top 32) yZ za):∀N:Nat,aH P w K mg base aP (2 * N+5) lW lX ["_law_script","_law_at","_law_kind_here","_law_room"] (sW K N)
 |0=>adE T cR
 |N+1=>by
  have ih:=S5 T cR bB j7 j8 N
  have Nx:=R8 (P:=P) (w:=w) (base:=base) T bB
  exact adF N T cR ih bB Nx j7 (adq T j7 bB Nx) j8 (adt T j8 bB Nx)
mutual
noncomputable def D.Sm:D->Prop
 | .int _=>True
 | .str _=>True
 | .tup xs=>xs.len<=100/\xs.Sm
 | .lst xs=>xs.len<=100/\xs.Sm
 | .dct m=>m.len<=100/\m.Sm
noncomputable def Ds.Sm:Ds->Prop
 | .nil=>True
 | .cons _ d r=>d.Sm/\r.Sm
end
theorem Ds.S6:∀{xs:Ds}{i:Nat}{d:D},xs.Sm->xs.at i=some d->d.Sm
 | .nil,_,_,_,h=>by cases h
 | .cons _ d r,0,_,w,h=>by unfold Ds.Sm at w;cases h;exact w.1
 | .cons _ d r,i+1,_,w,h=>by unfold Ds.Sm at w;exact Ds.S6 (xs:=r) (i:=i) w.2 h
theorem S7:∀(m:Ds),m.names.length=m.len
 | .nil=>rfl
 | .cons _ _ r=>by show r.names.length+1=r.len+1;rw[S7 r]
theorem S8:∀l:List Ds,(j4 l).len=l.length
 |[]=>rfl
 |m::r=>by show(j4 r).len+1=r.length+1;rw[S8 r]
theorem S9:∀{l:List Ds},(∀m∈l,(D.dct m).Sm)->(j4 l).Sm
 |[],_=>by unfold j4 Ds.Sm;trivial
 |m::r,h=>by
  unfold j4 Ds.Sm
  exact⟨h m List.mem_cons_self,S9 λx hx=>h x (List.mem_cons_of_mem _ hx)⟩
theorem S_ (g:Int->D × Int):∀(m:Nat) (n:Int),(times g m n).1.len=m
 |0,_=>rfl
 |m+1,n=>by show(times g m (g n).2).1.len+1=m+1;rw[S_ g m]
theorem Tc {g:Int->D × Int}(hg:∀n,(g n).1.Sm):∀(m:Nat) (n:Int),(times g m n).1.Sm
 |0,_=>by unfold times Ds.Sm;trivial
 |m+1,n=>by
  unfold times Ds.Sm
  exact⟨hg n,Tc hg m _⟩
theorem zu {a b:D}(h1:a.Sm)(h2:b.Sm):(pairD a b).Sm:=by
 unfold D.Sm
 exact⟨by show 2<=100;decide,by unfold Ds.Sm;exact⟨h1,by unfold Ds.Sm;exact⟨h2,by unfold Ds.Sm;trivial⟩⟩⟩
theorem Td {ns:List Int}{f:Nat->Int->D × Int}(hf:∀room n,room<8->(f room n).1.Sm):∀(fu room:Nat) (n:Int),room<8->(dh ns f fu room n).1.Sm
 |0,_,_,_=>by unfold dh D.Sm;trivial
 |fu+1,room,n,h=>by
  unfold dh
  refine zu (hf _ _ (by omega)) ?_
  unfold D.Sm
  refine⟨?_,Tc (λn=>Td hf fu (room / 2) n (by omega)) _ _⟩
  rw[S_]
  have:=mod_le (a:=nx ns ((f (room / 2) n).2+1)) h
  omega
theorem Er {g:Int->Ds × Int}{key:Str}:∀(m:Nat) (acc:List Ds) (n:Int),(iI g key m acc n).1.length<=acc.length+m
 |0,acc,n=>by simp[iI]
 |m+1,acc,n=>by
  unfold iI
  split
  . have:=Er (g:=g) (key:=key) m acc (g n).2
    omega
  . have:=Er (g:=g) (key:=key) m (acc++[(g n).1]) (g n).2
    rw[List.length_append] at this
    have e:[(g n).1].length=1:=rfl
    omega
mutual
theorem zx (ns:List Int):∀(k:Kd),k.W->∀(room:Nat) (n:Int),room<8->(val ns k room n).1.Sm
 | .num,_,_,_,_=>by unfold val D.Sm;trivial
 | .bW,_,_,_,_=>by unfold val D.Sm;trivial
 | .gb fs,w,room,n,h=>by
   unfold Kd.W at w
   unfold val
   exact Es ns fs w.2.2 room n h w.2.1
 | .rows key by_ fs,w,room,n,h=>by
   unfold Kd.W at w
   unfold val D.Sm
   refine⟨?_,S9 λm hm=>?_⟩
   . rw[S8,(qY key by_ _).length_eq]
     have:=Er (g:=bY ns fs (room / 2)) (key:=key) (nx ns (n+1) % ((room:Int)+1)).toNat [] (n+1)
     have e:=mod_le (a:=nx ns (n+1)) h
     have e2:([]:List Ds).length=0:=rfl
     omega
   . exact vI (R:=λm=>(D.dct m).Sm) (λn=>Es ns fs w.2.2.1 (room / 2) n (by omega) w.2.1) _ _ _ (λr hr=>absurd hr (by simp)) m ((qY key by_ _).mem_iff.mp hm)
 | .tree k,w,room,n,h=>by
   unfold Kd.W at w
   unfold val
   exact Td (λroom n h=>zx ns k w room n h) 4 room n h
 | .jq fs,w,room,n,h=>by
   unfold Kd.W at w
   unfold val
   exact Te ns fs w.2.2.2 _ room _ h
theorem Es (ns:List Int):∀(fs:Fs),fs.W->∀(room:Nat) (n:Int),room<8->fs.names.length<=12->(D.dct (bY ns fs room n).1).Sm
 | .nil,_,_,_,_,_=>by
   unfold bY D.Sm
   exact⟨by show 0<=100;omega,by unfold Ds.Sm;trivial⟩
 | .cons x k r,w,room,n,h,hl=>by
   unfold Fs.W at w
   have hl:r.names.length+1<=12:=hl
   have a:=zx ns k w.1 room n h
   have b:=Es ns r w.2 room (val ns k room n).2 h (by omega)
   unfold D.Sm at b
   unfold bY D.Sm
   refine⟨?_,by unfold Ds.Sm;exact⟨a,b.2⟩⟩
   show(bY ns r room (val ns k room n).2).1.len+1<=100
   rw[<-S7,zm]
   omega
theorem Te (ns:List Int):∀(fs:Fs),fs.W->∀(i room:Nat) (n:Int),room<8->(gH ns fs i room n).1.Sm
 | .nil,_,_,_,_,_=>by unfold gH D.Sm;trivial
 | .cons x k r,w,0,room,n,h=>by
   unfold Fs.W at w
   unfold gH
   exact zu (by unfold D.Sm;trivial) (zx ns k w.1 room n h)
 | .cons x k r,w,i+1,room,n,h=>by
   unfold Fs.W at w
   unfold gH
   exact Te ns r w.2 i room n h
end
theorem Own.pair {H:Hp}{v:V}{x y:Str}{a b:D}{fp:List Addr}(h:Own H v (.tup (.cons x a (.cons y b .nil))) fp):∃c v1 v2 f1 f2,v=.ref c/\H c=some (.tup [v1,v2])/\fp=f1++f2/\Own H v1 a f1/\Own H v2 b f2:=by
 unfold Own at h
 obtain⟨c,vs,rfl,hc,h⟩:=h
 unfold aX at h
 obtain⟨v1,q,f1,f2,rfl,rfl,g1,h⟩:=h
 unfold aX at h
 obtain⟨v2,q2,g,f3,rfl,rfl,g2,h⟩:=h
 unfold aX at h
 obtain⟨rfl,rfl⟩:=h
 exact⟨c,v1,v2,f1,g,rfl,hc,by simp,g1,g2⟩
mutual
inductive dM (P:D->Prop):D->Prop
 |mk {t:D} {as:Ds}:P t->cU P as->dM P (pairD t (.lst as))
inductive cU (P:D->Prop):Ds->Prop
 |nil:cU P .nil
 |cons {d:D} {r:Ds}:dM P d->cU P r->cU P (.cons "" d r)
end
mutual
noncomputable def flat:Nat->D->List (Nat × D)
 |e,.tup xs=>Tf e xs
 |_,_=>[]
noncomputable def Tf:Nat->Ds->List (Nat × D)
 |e,.cons _ t (.cons _ (.lst as) .nil)=>(e,t)::cA (e+1) as
 |_,_=>[]
noncomputable def cA:Nat->Ds->List (Nat × D)
 |_,.nil=>[]
 |e,.cons _ d r=>flat e d++cA e r
end
theorem g_ (e:Nat)(t:D)(as:Ds):flat e (pairD t (.lst as))=(e,t)::cA (e+1) as:=by
 unfold flat Tf;rfl
theorem gK (e:Nat):cA e .nil=[]:=by unfold cA;rfl
theorem dN (e:Nat)(x:Str)(d:D)(r:Ds):cA e (.cons x d r)=flat e d++cA e r:=by
 rw[cA]
mutual
theorem dM.all {P:D->Prop}:∀{d:D},dM P d->∀e,∀q∈flat e d,P q.2
 |_,.mk h l,e,q,hq=>by
  rw[g_] at hq
  rcases List.mem_cons.mp hq with z|z
  . rw[z];exact h
  . exact cU.all l _ q z
theorem cU.all {P:D->Prop}:∀{as:Ds},cU P as->∀e,∀q∈cA e as,P q.2
 |_,.nil,e,q,hq=>by rw[gK] at hq;exact absurd hq (by simp)
 |_,.cons h l,e,q,hq=>by
  rw[dN] at hq
  rcases List.mem_append.mp hq with z|z
  . exact dM.all h e q z
  . exact cU.all l e q z
end
mutual
theorem dM.len {P:D->Prop}:∀{d:D},dM P d->∀e,(flat e d).length=(flat 0 d).length
 |_,.mk h l,e=>by rw[g_,g_,List.length_cons,List.length_cons,cU.len l (e+1),cU.len l (0+1)]
theorem cU.len {P:D->Prop}:∀{as:Ds},cU P as->∀e,(cA e as).length=(cA 0 as).length
 |_,.nil,e=>by rw[gK,gK]
 |_,.cons h l,e=>by rw[dN,dN,List.length_append,List.length_append,dM.len h e,cU.len l e]
end
theorem cU.snoc {P:D->Prop}{d:D}(h:dM P d):∀{as:Ds},cU P as->cU P (as.snoc "" d)
 |_,.nil=>.cons h .nil
 |_,.cons a l=>.cons a (cU.snoc h l)
theorem Tg (e:Nat)(d:D):∀as:Ds,cA e (as.snoc "" d)=cA e as++flat e d
 | .nil=>by
   show cA e (.cons "" d .nil)=_
   rw[dN,gK,List.append_nil,List.nil_append]
 | .cons x y r=>by
   show cA e (.cons x y (r.snoc "" d))=_
   rw[dN,Tg e d r,dN,List.append_assoc]
noncomputable abbrev Zp:=List (D × Ds)
noncomputable def clo:Zp->Zp
 |(x,as)::(y,bs)::r=>(y,bs.snoc "" (pairD x (.lst as)))::r
 |z=>z
noncomputable def gn:Nat->Zp->Zp
 |0,z=>z
 |j+1,z=>gn j (clo z)
noncomputable def cut (e:Nat) (z:Zp):Zp:=gn (z.length - e) z
noncomputable def sX (x:D) (z:Zp):Zp:=(x,.nil)::z
noncomputable def stp (z:Zp) (q:Nat × D):Zp:=sX q.2 (cut q.1 z)
theorem Ti:∀{z:Zp},2<=z.length->(clo z).length+1=z.length
 |[],h=>absurd h (by simp)
 |[_],h=>absurd h (by simp)
 |(_,_)::(_,_)::_,_=>rfl
theorem Tj:∀{j:Nat}{z:Zp},j<z.length->(gn j z).length+j=z.length
 |0,z,_=>rfl
 |j+1,z,h=>by
  have h1:=Ti (z:=z) (by omega)
  have:=Tj (j:=j) (z:=clo z) (by omega)
  show(gn j (clo z)).length+(j+1)=_
  omega
theorem zy {e:Nat}{z:Zp}(h1:1<=e)(h:e<=z.length):(cut e z).length=e:=by
 have:=Tj (j:=z.length - e) (z:=z) (by omega)
 unfold cut;omega
theorem adM {e:Nat}{z:Zp}(h:z.length=e):cut e z=z:=by
 unfold cut;rw[h,Nat.sub_self];rfl
theorem Tn:∀(i j:Nat) (z:Zp),gn j (gn i z)=gn (i+j) z
 |0,j,z=>by rw[Nat.zero_add];rfl
 |i+1,j,z=>by
  show gn j (gn i (clo z))=_
  rw[Tn i j,show i+1+j=(i+j)+1 by omega];rfl
theorem adN {e f:Nat}{z:Zp}(h1:1<=f)(h:e<=f)(h2:f<=z.length):cut e (cut f z)=cut e z:=by
 have hl:=zy h1 h2
 unfold cut at hl ⊢
 rw[hl,Tn,show z.length - f+(f - e)=z.length - e by omega]
theorem adO {e:Nat}{a:D × Ds}{z:Zp}(h:z.length=e):cut e (a::z)=clo (a::z):=by
 unfold cut
 rw[List.length_cons,h,Nat.add_sub_cancel_left];rfl
noncomputable def Ds.app:Ds->Ds->Ds
 | .nil,b=>b
 | .cons x d r,b=>.cons x d (r.app b)
theorem Ds.Tp:∀a:Ds,a.app .nil=a
 | .nil=>rfl
 | .cons x d r=>by show Ds.cons x d (r.app .nil)=_;rw[Ds.Tp r]
theorem Ds.Tq (d:D)(b:Ds):∀a:Ds,(a.snoc "" d).app b=a.app (.cons "" d b)
 | .nil=>rfl
 | .cons x e r=>by show Ds.cons x e ((r.snoc "" d).app b)=Ds.cons x e (r.app _);rw[Ds.Tq d b r]
noncomputable def Et:Zp->D->Zp
 |(y,bs)::r,d=>(y,bs.snoc "" d)::r
 |[],_=>[]
noncomputable def zA:Zp->Ds->Zp
 |(y,bs)::r,as=>(y,bs.app as)::r
 |[],_=>[]
theorem adP:∀z:Zp,zA z .nil=z
 |[]=>rfl
 |(y,bs)::r=>by show(y,bs.app .nil)::r=_;rw[Ds.Tp]
theorem adQ (d:D)(b:Ds):∀z:Zp,zA (Et z d) b=zA z (.cons "" d b)
 |[]=>rfl
 |(y,bs)::r=>by show(y,(bs.snoc "" d).app b)::r=(y,bs.app _)::r;rw[Ds.Tq]
theorem adR (t:D)(as:Ds):∀{z:Zp},1<=z.length->clo ((t,as)::z)=Et z (pairD t (.lst as))
 |[],h=>absurd h (by simp)
 |(_,_)::_,_=>rfl
mutual
theorem adS {P:D->Prop}:∀{d:D},dM P d->∀{e:Nat}{z:Zp},1<=e->e<=z.length->e<=((flat e d).foldl stp z).length/\cut e ((flat e d).foldl stp z)=Et (cut e z) d
 |_,.mk (t:=t) (as:=as) h l,e,z,h1,h2=>by
  have hc:=zy h1 h2
  rw[g_,List.foldl_cons]
  have hz1:(stp z (e,t)).length=e+1:=by show(cut e z).length+1=_;rw[hc]
  obtain⟨a,b⟩:=Eu l (e:=e+1) (z:=stp z (e,t)) (by omega) (by omega)
  refine⟨by omega,?_⟩
  rw[<-adN (f:=e+1) (by omega) (by omega) a,b,adM hz1]
  show cut e ((t,Ds.nil.app as)::cut e z)=_
  rw[adO hc]
  exact adR t as (by omega)
theorem Eu {P:D->Prop}:∀{as:Ds},cU P as->∀{e:Nat}{z:Zp},1<=e->e<=z.length->e<=((cA e as).foldl stp z).length/\cut e ((cA e as).foldl stp z)=zA (cut e z) as
 |_,.nil,e,z,h1,h2=>by
  rw[gK]
  exact⟨h2,(adP _).symm⟩
 |_,.cons (d:=d) (r:=r) h l,e,z,h1,h2=>by
  rw[dN,List.foldl_append]
  obtain⟨a,b⟩:=adS h h1 h2
  obtain⟨a2,b2⟩:=Eu l h1 a
  exact⟨a2,by rw[b2,b,adQ]⟩
end
noncomputable def fin (z:Zp):D:=match cut 1 z with
 |(x,as)::_=>pairD x (.lst as)
 |[]=>.int 0
theorem Tr {P:D->Prop}{d:D}(h:dM P d):fin ((flat 0 d).foldl stp [])=d:=by
 cases h with
 |mk hp l=>
  rename_i t as
  rw[g_,List.foldl_cons]
  have e0:stp [] (0,t)=[(t,Ds.nil)]:=rfl
  rw[e0]
  obtain⟨_,b⟩:=Eu l (e:=0+1) (z:=[(t,Ds.nil)]) (Nat.le_refl _) (Nat.le_refl _)
  unfold fin
  rw[show(1:Nat)=0+1 from rfl,b]
  rfl
noncomputable def fM:Nat->List (Nat × D)->Prop
 |_,[]=>True
 |m,q::r=>1<=q.1/\q.1<=m/\fM (q.1+1) r
mutual
theorem adT {P:D->Prop}:∀{d:D},dM P d->∀{e m:Nat}{r:List (Nat × D)},1<=e->e<=m->(∀m',e+1<=m'->fM m' r)->fM m (flat e d++r)
 |_,.mk h l,e,m,r,h1,h2,hr=>by
  rw[g_]
  exact⟨h1,h2,Ew l (by omega) (Nat.le_refl _) hr⟩
theorem Ew {P:D->Prop}:∀{as:Ds},cU P as->∀{e m:Nat}{r:List (Nat × D)},1<=e->e<=m->(∀m',e<=m'->fM m' r)->fM m (cA e as++r)
 |_,.nil,e,m,r,h1,h2,hr=>by rw[gK];exact hr m h2
 |_,.cons h l,e,m,r,h1,h2,hr=>by
  rw[dN,List.append_assoc]
  exact adT h h1 h2 λm' hm=>Ew l h1 (by omega) hr
end
theorem Tt {P:D->Prop}{d:D}(h:dM P d):∃t r,flat 0 d=(0,t)::r/\fM 1 r:=by
 cases h with
 |mk hp l=>
  rename_i t as
  refine⟨t,cA 1 as,g_ 0 t as,?_⟩
  have:=Ew l (e:=1) (m:=1) (r:=[]) (Nat.le_refl _) (Nat.le_refl _) (λ_ _=>trivial)
  rwa [List.append_nil] at this
noncomputable def zc:Zp->Nat
 |[]=>0
 |(_,as)::r=>(cA 0 as).length+1+zc r
structure ZI (P:D->Prop) (i:Nat) (z:Zp):Prop where
 len:z.length<=i
 cnt:zc z=i
 fr:∀f∈z,P f.1/\cU P f.2/\f.2.Sm/\f.2.len+z.length<=i/\f.2.dep+2 * z.length<=2 * i+1
theorem Ds.Tv (d:D):∀as:Ds,(as.snoc "" d).dep=max as.dep d.dep
 | .nil=>by show max d.dep 0=max 0 d.dep;omega
 | .cons x e r=>by show max e.dep (r.snoc "" d).dep=max (max e.dep r.dep) d.dep;rw[Ds.Tv d r];omega
theorem Ds.Tw {d:D}(h:d.Sm):∀{as:Ds},as.Sm->(as.snoc "" d).Sm
 | .nil,_=>by show(Ds.cons "" d .nil).Sm;unfold Ds.Sm;exact⟨h,by unfold Ds.Sm;trivial⟩
 | .cons x e r,w=>by
   unfold Ds.Sm at w
   show(Ds.cons x e (r.snoc "" d)).Sm
   unfold Ds.Sm;exact⟨w.1,Ds.Tw h w.2⟩
theorem Ey (t:D)(as:Ds):(pairD t (.lst as)).dep=max t.dep (as.dep+1)+1:=by
 simp only[D.dep,Ds.dep];omega
theorem ZI.clo {P:D->Prop}{i:Nat}(hP:∀t,P t->t.dep<=2/\t.Sm)(hi:i<=60):∀{z:Zp},2<=z.length->ZI P i z->ZI P i (clo z)
 |[],h,_=>absurd h (by simp)
 |[_],h,_=>absurd h (by simp)
 |(x,as)::(y,bs)::r,_,⟨h1,h2,h3⟩=>by
  obtain⟨x1,x2,x3,x4,x5⟩:=h3 (x,as) List.mem_cons_self
  obtain⟨y1,y2,y3,y4,y5⟩:=h3 (y,bs) (List.mem_cons_of_mem _ List.mem_cons_self)
  have xd:=(hP x x1).1
  have x2:cU P as:=x2
  simp only[List.length_cons] at x4 x5 y4 y5 h1
  have hS:(pairD x (.lst as)).Sm:=zu (hP x x1).2 (by unfold D.Sm;exact⟨by omega,x3⟩)
  refine⟨by show(r.length+1)<=i;omega,?_,λf hf=>?_⟩
  . show(cA 0 (bs.snoc "" (pairD x (.lst as)))).length+1+zc r=i
    rw[Tg,List.length_append,g_,List.length_cons,cU.len x2 (0+1),<-h2]
    show _=(cA 0 as).length+1+((cA 0 bs).length+1+zc r)
    omega
  . rcases List.mem_cons.mp hf with z|z
    . rw[z]
      refine⟨y1,cU.snoc (.mk x1 x2) y2,Ds.Tw hS y3,?_,?_⟩
      . show(bs.snoc "" _).len+(r.length+1)<=i
        rw[Ds.RG];omega
      . show(bs.snoc "" _).dep+2 * (r.length+1)<=_
        rw[Ds.Tv,Ey];omega
    . obtain⟨w1,w2,w3,w4,w5⟩:=h3 f (List.mem_cons_of_mem _ (List.mem_cons_of_mem _ z))
      simp only[List.length_cons] at w4 w5
      exact⟨w1,w2,w3,by show f.2.len+(r.length+1)<=i;omega,by show f.2.dep+2 * (r.length+1)<=_;omega⟩
theorem ZI.gn {P:D->Prop}{i:Nat}(hP:∀t,P t->t.dep<=2/\t.Sm)(hi:i<=60):∀{j:Nat}{z:Zp},j<z.length->ZI P i z->ZI P i (gn j z)
 |0,z,_,h=>h
 |j+1,z,hj,h=>by
  have h1:=Ti (z:=z) (by omega)
  exact ZI.gn hP hi (j:=j) (z:=Pb.clo z) (by omega) (h.clo hP hi (by omega))
theorem ZI.cut {P:D->Prop}{i e:Nat}{z:Zp}(hP:∀t,P t->t.dep<=2/\t.Sm)(hi:i<=60)(h1:1<=e)(h2:e<=z.length)(h:ZI P i z):ZI P i (cut e z):=h.gn hP hi (by omega)
theorem ZI.sX {P:D->Prop}{i:Nat}{z:Zp}{x:D}(hx:P x)(h:ZI P i z):ZI P (i+1) (sX x z):=by
 obtain⟨h1,h2,h3⟩:=h
 refine⟨by show z.length+1<=i+1;omega,?_,λf hf=>?_⟩
 . show(cA 0 .nil).length+1+zc z=_
   rw[gK,h2];simp;omega
 . show _/\_/\_/\_+(z.length+1)<=_/\_+2 * (z.length+1)<=_
   rcases List.mem_cons.mp hf with e|e
   . rw[e]
     exact⟨hx,.nil,by unfold Ds.Sm;trivial,by show 0+_<=_;omega,by show 0+_<=_;omega⟩
   . obtain⟨w1,w2,w3,w4,w5⟩:=h3 f e
     exact⟨w1,w2,w3,by omega,by omega⟩
theorem ZI.one {P:D->Prop}{x:D}(hx:P x):ZI P 1 [(x,.nil)]:=ZI.sX (z:=[]) hx ⟨Nat.le_refl _,rfl,λf hf=>nomatch hf⟩
theorem ZI.fin {P:D->Prop}{i:Nat}{z:Zp}(hP:∀t,P t->t.dep<=2/\t.Sm)(hi:i<=60)(hz:1<=z.length)(h:ZI P i z):dM P (fin z)/\(fin z).Sm/\(fin z).dep<=2 * i+3/\(flat 0 (fin z)).length=i:=by
 have hc:=zy (Nat.le_refl 1) hz
 have hI:=h.cut hP hi (Nat.le_refl 1) hz
 unfold Pb.fin
 generalize Pb.cut 1 z=z' at hc hI
 match z',hc,hI with
 |[(x,as)],_,⟨h1,h2,h3⟩=>
  obtain⟨x1,x2,x3,x4,x5⟩:=h3 (x,as) List.mem_cons_self
  have:=(hP x x1).1
  have x2:cU P as:=x2
  simp only[List.length_cons,List.length_nil] at x4 x5
  refine⟨.mk x1 x2,zu (hP x x1).2 (by unfold D.Sm;exact⟨by omega,x3⟩),by rw[Ey];omega,?_⟩
  show(flat 0 (pairD x (.lst as))).length=i
  rw[g_,List.length_cons,cU.len x2 (0+1)]
  have h2:(cA 0 as).length+1+0=i:=h2
  omega
noncomputable def eU (R:Nat->V->(Nat × D)->Prop) (ws:List V) (qs:List (Nat × D)):Prop:=ws.length=qs.length/\∀i w q,ws[i]? =some w->qs[i]? =some q->R i w q
theorem eU.nil {R:Nat->V->(Nat × D)->Prop}:eU R [] []:=⟨rfl,λi w q h=>by simp at h⟩
theorem eU.imp {R S:Nat->V->(Nat × D)->Prop}{ws:List V}{qs:List (Nat × D)}(h:eU R ws qs)(f:∀i w q,R i w q->S i w q):eU S ws qs:=⟨h.1,λi w q a b=>f i w q (h.2 i w q a b)⟩
theorem eU.snoc {R:Nat->V->(Nat × D)->Prop}{ws:List V}{qs:List (Nat × D)}{w:V}{q:Nat × D}(h:eU R ws qs)(hw:R qs.length w q):eU R (ws++[w]) (qs++[q]):=by
 refine⟨by rw[List.length_append,List.length_append,h.1];rfl,λi w' q' a b=>?_⟩
 by_cases c:i<ws.length
 . rw[List.getElem?_append_left c] at a
   rw[List.getElem?_append_left (by rw[<-h.1];exact c)] at b
   exact h.2 i w' q' a b
 . rw[List.getElem?_append_right (by omega)] at a
   rw[List.getElem?_append_right (by rw[<-h.1];omega)] at b
   obtain⟨j,hj⟩:∃j,i - ws.length=j:=⟨_,rfl⟩
   rw[hj] at a
   rw[<-h.1,hj] at b
   cases j with
   |zero=>
    have e:i=qs.length:=by rw[<-h.1];omega
    have a:some w=some w':=a
    have b:some q=some q':=b
    cases a;cases b
    rw[e];exact hw
   |succ j=>simp at a
theorem eU.app {R:V->(Nat × D)->Prop}{ws ws':List V}{qs bD:List (Nat × D)}(h:eU (λ_=>R) ws qs)(h':eU (λ_=>R) ws' bD):eU (λ_=>R) (ws++ws') (qs++bD):=by
 refine⟨by rw[List.length_append,List.length_append,h.1,h'.1],λi w q a b=>?_⟩
 by_cases c:i<ws.length
 . rw[List.getElem?_append_left c] at a
   rw[List.getElem?_append_left (by rw[<-h.1];exact c)] at b
   exact h.2 i w q a b
 . rw[List.getElem?_append_right (by omega)] at a
   rw[List.getElem?_append_right (by rw[<-h.1];omega),<-h.1] at b
   exact h'.2 _ w q a b
theorem eU.at {R:Nat->V->(Nat × D)->Prop}{ws:List V}{qs:List (Nat × D)}{i:Nat}{w:V}(h:eU R ws qs)(e:ws[i]? =some w):∃q,qs[i]? =some q/\R i w q:=by
 obtain⟨hi,_⟩:=List.getElem?_eq_some_iff.mp e
 have hq:qs[i]? =some (qs[i]'(by rw[<-h.1];exact hi)):=List.getElem?_eq_getElem _
 exact⟨_,hq,h.2 i w _ e hq⟩
noncomputable def nq (S:List Addr) (H:Hp) (w:V) (q:Nat × D):Prop:=∃c u f,w=.ref c/\H c=some (.tup [.int q.1,u])/\Own H u q.2 f/\∀a∈f,a∈S
noncomputable abbrev vW (S:List Addr) (H:Hp):List V->List (Nat × D)->Prop:=eU λ_=>nq S H
noncomputable def o8 (S:List Addr) (x y z:Str) (H:Hp) (i:Nat) (w:V) (q:Nat × D):Prop:=∃c u f,w=.ref c/\H c=some (.dK [(Sum.inr x,.int i),(Sum.inr y,.int q.1),(Sum.inr z,u)])/\Own H u q.2 f/\∀a∈f,a∈S
noncomputable abbrev fO (S:List Addr) (x y z:Str) (H:Hp):List V->List (Nat × D)->Prop:=eU (o8 S x y z H)
theorem nq.keep {S:List Addr}{H H':Hp}(t:Tu H H')(k:∀a∈S,∀o,H a=some o->H' a=some o){w:V}{q:Nat × D}(h:nq S H w q):nq S H' w q:=by
 obtain⟨c,u,f,e,hc,ho,hf⟩:=h
 exact⟨c,u,f,e,t _ _ hc,ho.keep t _ λa ha=>k a (hf a ha),hf⟩
theorem nq.wide {S S':List Addr}(hs:∀a∈S,a∈S'){H:Hp}{w:V}{q:Nat × D}(h:nq S H w q):nq S' H w q:=by
 obtain⟨c,u,f,e,hc,ho,hf⟩:=h
 exact⟨c,u,f,e,hc,ho,λa ha=>hs a (hf a ha)⟩
theorem vW.same {S:List Addr}{H H':Hp}(s:Same H H'){ws:List V}{qs:List (Nat × D)}(h:vW S H ws qs):vW S H' ws qs:=h.imp λ_ w q r=>r.keep (Tu.of s) λa _ o e=>s a o e
theorem o8.sb {S:List Addr}{x y z:Str}{H H':Hp}{b:Addr}{l:List V}(s:SB b H H')(hb:H b=some (.lst l))(hS:b ∉ S){i:Nat}{w:V}{q:Nat × D}(h:o8 S x y z H i w q):o8 S x y z H' i w q:=by
 obtain⟨c,u,f,e,hc,ho,hf⟩:=h
 exact⟨c,u,f,e,s c _ (jV hc hb (by intro z;cases z)) hc,ho.keep (s.vQ hb) _ λa ha o e=>s a o (λz=>hS (by rw[<-z];exact hf a ha)) e,hf⟩
theorem fO.sb {S:List Addr}{x y z:Str}{H H':Hp}{b:Addr}{l:List V}(s:SB b H H')(hb:H b=some (.lst l))(hS:b ∉ S){ws:List V}{qs:List (Nat × D)}(h:fO S x y z H ws qs):fO S x y z H' ws qs:=h.imp λ_ _ _ r=>r.sb s hb hS
theorem fO.same {S:List Addr}{x y z:Str}{H H':Hp}(s:Same H H'){ws:List V}{qs:List (Nat × D)}(h:fO S x y z H ws qs):fO S x y z H' ws qs:=h.imp λ_ w q ⟨c,u,f,e,hc,ho,hf⟩=>⟨c,u,f,e,s _ _ hc,ho.same s,hf⟩
noncomputable def Ds.tk:Ds->Nat->Ds
 |_,0=>.nil
 | .nil,_+1=>.nil
 | .cons x d r,i+1=>.cons x d (r.tk i)
theorem Tz (e:Nat):∀{as:Ds}{i:Nat}{d:D},as.at i=some d->cA e (as.tk (i+1))=cA e (as.tk i)++flat e d
 | .nil,_,_,h=>by cases h
 | .cons x d r,0,_,h=>by
   cases h
   show cA e (.cons x d (r.tk 0))=cA e .nil++flat e d
   have:r.tk 0=.nil:=by cases r <;> rfl
   rw[this,dN,gK,List.append_nil,List.nil_append]
 | .cons x d r,i+1,d',h=>by
   show cA e (.cons x d (r.tk (i+1)))=cA e (.cons x d (r.tk i))++_
   rw[dN,Tz e (as:=r) (i:=i) h,dN,List.append_assoc]
theorem TF (as:Ds):as.tk 0=.nil:=by cases as <;> rfl
theorem TJ:∀as:Ds,as.tk as.len=as
 | .nil=>rfl
 | .cons x d r=>by show Ds.cons x d (r.tk r.len)=_;rw[TJ r]
theorem cU.at {P:D->Prop}:∀{as:Ds}{i:Nat}{d:D},cU P as->as.at i=some d->dM P d
 |_,_,_,.nil,h=>by cases h
 |_,0,_,.cons a l,h=>by cases h;exact a
 |_,i+1,_,.cons a l,h=>cU.at (i:=i) l h
theorem TQ {e:Nat}:∀{as:Ds}{i:Nat}{d:D},as.at i=some d->(cA e (as.tk i)).length+(flat e d).length<=(cA e as).length
 | .nil,_,_,h=>by cases h
 | .cons x d r,0,_,h=>by
   cases h
   rw[TF,gK,dN,List.length_append];simp
 | .cons x d r,i+1,d',h=>by
   have:=TQ (e:=e) (as:=r) (i:=i) h
   show(cA e (.cons x d (r.tk i))).length+_<=_
   rw[dN,dN,List.length_append,List.length_append];omega
noncomputable def vX (n:Nat):Sp:=λvs H Q _=>∃v e d fp P,vs=[v,.int (e:Nat)]/\Own H v d fp/\dM P d/\d.dep<=n/\d.Sm/\(flat e d).length<=1000/\
 ∀p ws H',H p=none->Same H H'->H' p=some (.lst ws)->vW fp H' ws (flat e d)->Q (.ref p) H'
theorem Ez:b_ ["tree","deep","knots","arm"] ["tree","deep"] (aM (top 27)):=cI
theorem adU (T:Tb mg)(h_:Dn K mg "knots_of" ["tree","deep"] (top 27) o9 o_):aH P w K mg base aP (1) o9 o_ ["tree","deep"] (vX 0):=by
 refine h_.F.ok Ez (λvs H Q E h=>?_) (λcdv A outer s H vs Q E hr h=>?_)
 . obtain⟨v,e,d,fp,P,rfl,_⟩:=h
   rfl
 obtain⟨v,e,d,fp,P,rfl,_,_,hd,_⟩:=h
 exact absurd hd (by have:=d.Dq;omega)
theorem adV (n:Nat)(T:Tb mg)(h_:Dn K mg "knots_of" ["tree","deep"] (top 27) o9 o_)(EY:aH P w K mg base aP (n+1) o9 o_ ["tree","deep"] (vX n)):aH P w K mg base aP ((n+1)+1) o9 o_ ["tree","deep"] (vX (n+1)):=by
 refine h_.F.ok Ez (λvs H Q E h=>?_) (λcdv A outer s H vs Q E hr h=>?_)
 . obtain⟨v,e,d,fp,P,rfl,_⟩:=h
   rfl
 obtain⟨v,e,d,fp,P,rfl,hO,hT,hd,hS,hL,q⟩:=h
 have nd:=Ez.nd
 refine⟨_,(aB (aW (i:=2) nd rfl (Or.inl rfl) (cL (aj (dR (aj (pv 1) (aj (aJ bV (pv 0) ak (λ_ _=>rfl)) ao))) ao)))
  (aB (fY PassesOwn.never rfl (jY (aJ bV (pv 0) ak (λ_ _=>rfl))) (cG (i:=3) nd rfl (Or.inl rfl)) (aC (jj (mY PySem.F.plainAttrs_list PySem.F.slot_list_extend PySem.F.type_list_extend abf (pv 2) (aj (bF EY (hr.mono (by omega)) rfl h_.m h_.F.kp h_.b .nil bC (aj (pv 3) (aj (aL gC (pv 1) ak) ao))) ao)))))
  (aC (bf (pv 2))))),?_⟩
 cases hT with
 |mk hp hl=>
  rename_i t as
  obtain⟨c,v1,v2,f1,f2,rfl,hc,rfl,ho1,ho2⟩:=hO.pair
  unfold Own at ho2
  obtain⟨l,ys,fq,rfl,hl',rfl,hol⟩:=ho2
  rw[Ey] at hd
  unfold D.Sm Ds.Sm at hS
  obtain⟨_,_,TV⟩:=hS
  unfold Ds.Sm at TV
  have sm3:=TV.1
  unfold D.Sm at sm3
  rw[g_] at hL q
  rw[List.length_cons] at hL
  refine⟨_,rfl,_,rfl,c,_,_,_,rfl,rfl,aN.of hc,rfl,gO,λt1 ht1=>⟨dF,λp hp=>?_⟩⟩
  have st:Same H (upd H t1 (.tup [.int e,v1])):=Same.new ht1
  have sp:Same (upd H t1 (.tup [.int e,v1])) (upd (upd H t1 (.tup [.int e,v1])) p (.lst [.ref t1])):=Same.new hp
  have s0:=st.trans sp
  have pq:H p=none:=by
   cases z:H p with
   |none=>rfl
   |some o=>rw[st _ _ z] at hp;cases hp
  have kn0:nq (f1++l::fq) (upd (upd H t1 (.tup [.int e,v1])) p (.lst [.ref t1])) (.ref t1) (e,t):=⟨t1,v1,f1,rfl,sp _ _ aD,ho1.same s0,λa ha=>List.mem_append_left _ ha⟩
  refine⟨_,rfl,c,_,_,_,rfl,rfl,aN.of (s0 _ _ hc),rfl,l,rfl,⟨_,aq.of (s0 _ _ hl')⟩,qH (xs:=ys) (λi σ H'=>∃x ws,σ=[some (.ref c),some (.int e),some (.ref p),x]/\Same H H'/\H' p=some (.lst ws)/\vW (f1++l::fq) H' ws ((e,t)::cA (e+1) (as.tk i))) ?_ ?_ ?_ ?_⟩
  . refine⟨_,_,rfl,s0,aD,?_⟩
    rw[TF,gK]
    exact eU.nil.snoc kn0
  . rintro i σ H' _ ⟨x,ws,rfl,s1,_⟩
    exact aq.of (s1 _ _ hl')
  . rintro i yv σ H' hy ⟨x,ws,rfl,s1,hp1,hk1⟩
    obtain⟨d',f,hat,hod,hff⟩:=aX.get _ hol hy
    have hdd:=Ds.vG hat
    have hle:=TQ (e:=e+1) hat
    refine⟨_,rfl,.inl ⟨rfl,_,aq.of hp1⟩,_,rfl,_,rfl,_,_,rfl,rfl,yv,e+1,d',f,_,rfl,hod.same s1,hl.at hat,by omega,Ds.S6 sm3.2 hat,by omega,λp2 jP H2 hp2 s2 h2 hk2=>?_⟩
    have hl2:=hk1.1
    have hl3:=hk2.1
    rw[List.length_cons] at hl2
    refine⟨p,p2,ws,jP,rfl,rfl,s2 _ _ hp1,h2,Nat.le_of_lt (dX (by omega)),?_⟩
    have Ep:Mu H2 p:=.inl ⟨_,s2 _ _ hp1⟩
    have tu:Tu H2 (upd H2 p (.lst (ws++jP))):=Tu.wr λys z=>Ep.vJ ys z
    have kS:∀a∈f1++l::fq,∀o,H2 a=some o->upd H2 p (.lst (ws++jP)) a=some o:=λa ha o e=>by
     rw[au (λz=>by
      have hm:Mu H a:=by
       rcases List.mem_append.mp ha with y|y
       . exact Own.alive _ ho1 a y
       . rcases List.mem_cons.mp y with y|y
         . rw[y];exact .inl ⟨_,hl'⟩
         . exact aX.alive _ hol a y
      exact hm.ne pq z)]
     exact e
    refine⟨_,ws++jP,rfl,λa o h=>by rw[au (aR h pq)];exact(s1.trans s2) a o h,aD,?_⟩
    rw[Tz _ hat,<-List.cons_append]
    exact eU.app ((hk1.same s2).imp λ_ _ _ r=>r.keep tu kS) (hk2.imp λ_ _ _ r=>nq.keep tu kS (r.wide λa ha=>List.mem_append_right _ (List.mem_cons_of_mem _ (hff a ha))))
  . rintro σ H' ⟨x,ws,rfl,s1,hp1,hk1⟩
    rw[aX.len _ hol,TJ] at hk1
    exact⟨_,rfl,q p ws H' pq s1 hp1 hk1⟩
theorem TX (T:Tb mg)(h_:Dn K mg "knots_of" ["tree","deep"] (top 27) o9 o_):∀n:Nat,aH P w K mg base aP (n+1) o9 o_ ["tree","deep"] (vX n)
 |0=>adU T h_
 |n+1=>adV n T h_ (TX T h_ n)
theorem zB {x y z:Str}{a b c:V}(h1:x≠y)(h2:x≠z)(h3:y≠z):rW [] [(Sum.inr x,a),(Sum.inr y,b),(Sum.inr z,c)]=[(Sum.inr x,a),(Sum.inr y,b),(Sum.inr z,c)]:=by
 show putK (putK (putK [] (Sum.inr x) a) (Sum.inr y) b) (Sum.inr z) c=_
 rw[sS (kvs:=[]) rfl]
 show putK (putK [(Sum.inr x,a)] (Sum.inr y) b) (Sum.inr z) c=_
 rw[sS (kvs:=[(Sum.inr x,a)]) (by rw[iR (λe=>h1 (Sum.inr.inj e))];rfl)]
 show putK [(Sum.inr x,a),(Sum.inr y,b)] (Sum.inr z) c=_
 rw[sS (by rw[iR (λe=>h2 (Sum.inr.inj e)),iR (λe=>h3 (Sum.inr.inj e))];rfl)]
 rfl
theorem TY {i:Int}{l:Nat}(h0:0<=i)(h1:i<l):seqIndex? i l=some i.toNat:=by
 show(if(decide (0<=(if i<0 then i+(l:Int) else i)) && decide ((if i<0 then i+(l:Int) else i)<l))=true then some (if i<0 then i+(l:Int) else i).toNat else none)=_
 rw[show(if i<0 then i+(l:Int) else i)=i from if_neg (by omega),decide_eq_true h0,decide_eq_true h1]
 rfl
theorem E_ {α β:Type}(f:α->β):∀(l:List α) (i:Nat),(l.map f).eraseIdx i=(l.eraseIdx i).map f
 |[],i=>rfl
 |a::r,0=>rfl
 |a::r,i+1=>by show f a::(r.map f).eraseIdx i=f a::(r.eraseIdx i).map f;rw[E_ f r i]
theorem three {ss:List Str}(hl:ss.length=3)(nd:ss.Nodup){i j:Nat}(hi:i<3)(hj:j<2):∃x y z,ss[i]? =some x/\(ss.eraseIdx i).length=2/\(ss.eraseIdx i)[j]? =some y/\(ss.eraseIdx i).eraseIdx j=[z]/\x≠y/\x≠z/\y≠z:=by
 match ss,hl with
 |[a,b,c],_=>
  simp only[List.nodup_cons,List.mem_cons,List.not_mem_nil,or_false,not_or] at nd
  obtain⟨⟨h1,h2⟩,h3,_⟩:=nd
  match i,j,hi,hj with
  |0,0,_,_=>exact⟨a,b,c,rfl,rfl,rfl,rfl,h1,h2,h3⟩
  |0,1,_,_=>exact⟨a,c,b,rfl,rfl,rfl,rfl,h2,h1,Ne.symm h3⟩
  |1,0,_,_=>exact⟨b,a,c,rfl,rfl,rfl,rfl,Ne.symm h1,h3,h2⟩
  |1,1,_,_=>exact⟨b,c,a,rfl,rfl,rfl,rfl,h3,Ne.symm h1,Ne.symm h2⟩
  |2,0,_,_=>exact⟨c,a,b,rfl,rfl,rfl,rfl,Ne.symm h2,Ne.symm h3,h1⟩
  |2,1,_,_=>exact⟨c,b,a,rfl,rfl,rfl,rfl,Ne.symm h3,Ne.symm h2,Ne.symm h1⟩
noncomputable def T3 (K:W.Frag):Sp:=λvs H Q _=>∃a b ns n,vs=[.ref a,.ref b]/\G0 K H a b ns n/\n+2<=1000000000000/\
 ∀(r:Addr) (x y z:Str) (H':Hp),SB b H H'->H' b=some (.lst [.int (n+2)])->H' r=some (.lst [.str x,.str y,.str z])->x≠y->x≠z->y≠z->x≠""->Q (.ref r) H'
theorem T4:b_ ["_law_script","_law_at","_law_names_here","_law_m","_law_first","_law_second"] ["_law_script","_law_at"] (aM (top 43)):=cI
theorem adX (T:Tb mg)(pA:Dn K mg "_law_turned_names" ["_law_script","_law_at"] (top 43) Fb Fd)(oX:Dn K mg "_law_names" ["_law_script","_law_at","_law_many"] (top 33) Ef Eh)(adY:aH P w K mg base aP (2) Ef Eh ["_law_script","_law_at","_law_many"] (R6 K))(bB:Dn K mg "_law_next" ["_law_script","_law_at"] (top 30) fJ fL)(gh:aH P w K mg base aP (1) fJ fL ["_law_script","_law_at"] (q9 K)):aH P w K mg base aP (3) Fb Fd ["_law_script","_law_at"] (T3 K):=by
 refine pA.F.ok T4 (λvs H Q E h=>?_) (λcdv A outer s H vs Q E hr h=>?_)
 . obtain⟨a,b,ns,n,rfl,_⟩:=h
   rfl
 obtain⟨a,b,ns,n,rfl,g,hn,q⟩:=h
 have nd:=T4.nd
 refine⟨_,(aB (aW (i:=2) nd rfl (Or.inl rfl) (bF adY (hr.mono (by omega)) rfl oX.m oX.F.kp oX.b .nil bC (aj (pv 0) (aj (pv 1) (aj ak ao)))))
  (aB (aW (i:=3) nd rfl (Or.inl rfl) (bF gh (hr.mono (by omega)) rfl bB.m bB.F.kp bB.b .nil bC (aj (pv 0) (aj (pv 1) ao))))
  (aB (aW (i:=4) nd rfl (Or.inl rfl) (mY PySem.F.plainAttrs_list PySem.F.slot_list_pop PySem.F.type_list_pop P0 (pv 2) (aj (aL cH (pv 3) ak) ao)))
  (aB (aW (i:=5) nd rfl (Or.inl rfl) (mY PySem.F.plainAttrs_list PySem.F.slot_list_pop PySem.F.type_list_pop P0 (pv 2) (aj (aL cH (aL gU (pv 3) ak) ak) ao)))
  (aC (bf (cL (aj (pv 4) (aj (pv 5) (aj (aJ bh (pv 2) ak (λ_ _=>rfl)) ao)))))))))),?_⟩
 refine⟨_,rfl,_,rfl,a,b,ns,n,3,rfl,by decide,g,by omega,λp ss H1 s1 h1 hpb hpn hp hl hnd hsr hnm=>?_⟩
 refine⟨_,rfl,_,rfl,a,b,ns,n+1,rfl,g.go s1 h1 (by omega),by omega,λm H2 m0 m1 s2 h2=>?_⟩
 have hp2:=s2 _ _ hpb hp
 obtain⟨x,y,z,e1,e2,e3,e4,hxy,hxz,hyz⟩:=three hl hnd (i:=(m % 3).toNat) (j:=(m / 3 % 2).toNat) (by omega) (by omega)
 have em:(ss.map V.str).eraseIdx (m % 3).toNat=(ss.eraseIdx (m % 3).toNat).map V.str:=E_ _ _ _
 have em2:((ss.eraseIdx (m % 3).toNat).map V.str).eraseIdx (m / 3 % 2).toNat=[.str z]:=by rw[E_,e4];rfl
 refine⟨_,rfl,.inl ⟨rfl,_,aq.of hp2⟩,_,rfl,_,_,rfl,rfl,(by show(0:Int)<_;decide),p,_,m % 3,(m % 3).toNat,.str x,rfl,rfl,hp2,by omega,by omega,TY (by omega) (by rw[List.length_map,hl];omega),by rw[List.getElem?_map,e1];rfl,?_⟩
 rw[em]
 refine⟨_,rfl,.inl ⟨rfl,_,aq.of aD⟩,_,rfl,_,_,rfl,rfl,⟨by decide,by decide⟩,_,_,rfl,rfl,(by show(0:Int)<_;decide),p,_,m / 3 % 2,(m / 3 % 2).toNat,.str y,rfl,rfl,aD,by omega,by omega,TY (by omega) (by rw[List.length_map,e2];omega),by rw[List.getElem?_map,e3];rfl,?_⟩
 rw[em2]
 refine⟨_,rfl,_,rfl,_,rfl,p,_,_,_,rfl,rfl,aq.of aD,rfl,w6,λr hr'=>?_⟩
 have vR:b≠p:=Ne.symm hpb
 have sb:SB b H (upd (upd H2 p (.lst ((ss.eraseIdx (m % 3).toNat).map V.str))) p (.lst [.str z])):=λc o hc h=>by
  rw[au (aR h hpn),au (aR h hpn)]
  exact(s1.trans s2) c o hc h
 have hb2:upd (upd H2 p (.lst ((ss.eraseIdx (m % 3).toNat).map V.str))) p (.lst [.str z]) b=some (.lst [.int (n+1+1)]):=by
  rw[au vR,au vR];exact h2
 exact q r x y z _ (sb.trans (SB.new hr')) (by rw[au (aR hb2 hr'),hb2];rw[show n+1+1=n+2 by omega]) aD hxy hxz hyz (hnm x (List.mem_of_getElem? e1)).2.2.2.1
theorem j9 {A B:TS}{D:Ends}{σ:L2.St}{H:Hp}(Pv:L2.St->Hp->Prop)(hB:∀σ' H',Pv σ' H'->B D σ' H')(hA:(∀σ' H',Pv σ' H'->B D σ' H')->A { D with nx:=B D } σ H):xK A B D σ H:=hA hB
theorem new1 {H:Hp}{p:Addr}(hp:H p=none)(o:HO):∃H',upd H p o=H'/\Same H H'/\H' p=some o:=⟨_,rfl,Same.new hp,aD⟩
theorem T5 (xs:List V)(i:Nat):mV xs none (some (i:Int))=xs.take i:=by
 unfold mV
 rw[HT.PJ,HT.PK,List.drop_zero,Nat.sub_zero]
 exact List.take_eq_take_iff.mpr (by omega)
noncomputable def gM (k:Kd) (t:D):Prop:=fG k t/\t.dep<=2/\t.Sm
noncomputable def cW:Nat->List (Nat × D)->Nat
 |m,[]=>m
 |_,q::r=>cW (q.1+1) r
theorem Fe (q:Nat × D):∀(m:Nat) (r:List (Nat × D)),cW m (r++[q])=q.1+1
 |_,[]=>rfl
 |_,p::r=>Fe q (p.1+1) r
theorem fM.snoc {q:Nat × D}(h1:1<=q.1):∀{m:Nat}{r:List (Nat × D)},fM m r->q.1<=cW m r->fM m (r++[q])
 |m,[],_,h=>⟨h1,h,trivial⟩
 |m,p::r,hc,h=>⟨hc.1,hc.2.1,fM.snoc h1 hc.2.2 h⟩
theorem T6:∀{m:Nat}{r:List (Nat × D)},1<=m->1<=cW m r
 |_,[],h=>h
 |_,p::r,_=>T6 (m:=p.1+1) (r:=r) (by omega)
theorem Fg (m:Int){n:Int}(h:0<n):0<=m % n/\m % n<n:=⟨Int.emod_nonneg _ (by omega),Int.emod_lt_of_pos _ h⟩
noncomputable def T7 (K:W.Frag):Sp:=λvs H Q _=>∃a b ns n ro kv kp x y z,vs=[.ref a,.ref b,.ref ro,kv]/\G0 K H a b ns n/\n+100<=1000000000000/\H ro=some (.lst [.str x,.str y,.str z])/\ro≠b/\x≠y/\x≠z/\y≠z/\KA H kv kp/\fC kp/\kp.W/\
 ∀(p:Addr) (ws:List V) (t:D) (r:List (Nat × D)) (n':Int) (H':Hp),SB b H H'->H' b=some (.lst [.int n'])->n<=n'->n'<=n+100->H p=none->H' p=some (.lst ws)->fO [] x y z H' ws ((0,t)::r)->fM 1 r->(∀q∈(0,t)::r,gM kp q.2)->r.length<=40->Q (.ref p) H'
theorem T8 {k:Kd}{d:D}{v:V}{f:List Addr}{H:Hp}(hp:fC k)(hF:fG k d)(hO:Own H v d f):f=[]/\∀H',Own H' v d []:=by
 cases k with
 |num=>
  unfold fG at hF
  obtain⟨z,rfl⟩:=hF
  unfold Own at hO
  exact⟨hO.2,λH'=>by unfold Own;exact⟨hO.1,rfl⟩⟩
 |bW=>
  unfold fG at hF
  obtain⟨z,rfl⟩:=hF
  unfold Own at hO
  exact⟨hO.2,λH'=>by unfold Own;exact⟨hO.1,rfl⟩⟩
 |_=>exact hp.elim
theorem T9:b_ ["_law_script","_law_at","_law_row_of","_law_part","_law_rows_here","_law_high","_law_cell","_law_deep","_law_value_here"] ["_law_script","_law_at","_law_row_of","_law_part"] (aM (top 46)):=cI
theorem ad0 (N:Nat)(hN:60<=N)(T:Tb mg)(pB:Dn K mg "_law_tree_rows" ["_law_script","_law_at","_law_row_of","_law_part"] (top 46) Fi Fj)(cR:Dn K mg "_law_value" ["_law_script","_law_at","_law_kind_here","_law_room"] (top 40) lW lX)(o7:aH P w K mg base aP (2 * N+5) lW lX ["_law_script","_law_at","_law_kind_here","_law_room"] (sW K N)):aH P w K mg base aP (2 * N+6) Fi Fj ["_law_script","_law_at","_law_row_of","_law_part"] (T7 K):=by
 refine pB.F.ok T9 (λvs H Q E h=>?_) (λcdv A outer s H vs Q E hr h=>?_)
 . obtain⟨a,b,ns,n,ro,kv,kp,x,y,z,rfl,_⟩:=h
   rfl
 obtain⟨a,b,ns,n,ro,kv,kp,x,y,z,rfl,g,hn,dz,hrb,hxy,hxz,hyz,hk,hpl,hW,q⟩:=h
 have nd:=T9.nd
 refine⟨_,(aB (aW (i:=4) nd rfl (Or.inl rfl) (cL (aj (yq (jJ (aJ bh (pv 2) ak (λ_ _=>rfl)) ak (jJ (aJ bh (pv 2) ak (λ_ _=>rfl)) ak (jJ (aJ bh (pv 2) ak (λ_ _=>rfl)) (bF o7 (hr.mono (by omega)) rfl cR.m cR.F.kp cR.b .nil bC (aj (pv 0) (aj (pv 1) (aj (pv 3) (aj ak ao))))) yp))) rfl rfl (by simp) (by decide)) ao)))
  (aB (aW (i:=5) nd rfl (Or.inl rfl) ak)
  (aB (fY PassesOwn.never rfl (jY (uZ Cd (pv 0) uX (uY ak))) (cG (i:=6) nd rfl (Or.inl rfl)) (aB (aW (i:=7) nd rfl (Or.inl rfl) (aL gC ak (aL cH (pv 6) (pv 5))))
  (aB (aW (i:=8) nd rfl (Or.inl rfl) (bF o7 (hr.mono (by omega)) rfl cR.m cR.F.kp cR.b .nil bC (aj (pv 0) (aj (pv 1) (aj (pv 3) (aj ak ao))))))
  (aB (jj (mY PySem.F.plainAttrs_list PySem.F.slot_list_append PySem.F.type_list_append u6 (pv 4) (aj (yq (jJ (aJ bh (pv 2) ak (λ_ _=>rfl)) (bN gG (by rfl) T.dY PySem.boot_len (aj (pv 4) ao)) (jJ (aJ bh (pv 2) ak (λ_ _=>rfl)) (pv 7) (jJ (aJ bh (pv 2) ak (λ_ _=>rfl)) (pv 8) yp))) rfl rfl (by simp) (by decide)) ao)))
  (aC (aW (i:=5) nd rfl (Or.inl rfl) (aL gC (pv 7) ak)))))))
  (aC (bf (pv 4)))))),?_⟩
 refine λpd hpd=>?_
 have hcB:kp.cB=1/\kp.dep=1/\oZ kp:=by
  cases kp with
  |num=>exact⟨rfl,rfl,trivial⟩
  |bW=>exact⟨rfl,rfl,trivial⟩
  |_=>exact hpl.elim
 obtain⟨hc1,ao8,htr⟩:=hcB
 have zp:=Sx kp 1
 have hkc:=zj kp 1
 have drawn:∀(m:Int),gM kp (val ns kp 1 m).1:=λm=>⟨yM ns kp hW 1 m (by decide),Nat.le_trans (yN ns kp 1 m) (by cases kp <;> first|(simp[Kd.dB];done)|exact hpl.elim),zx ns kp hW 1 m (by decide)⟩
 have sd:Same H (upd H pd (.dK [])):=Same.new hpd
 have frB:∀c,H c=none->c≠b:=λc hc z=>by rw[z,g.at_] at hc;cases hc
 have gd:G0 K (upd H pd (.dK [])) a b ns n:=g.go (SB.of sd) (sd _ _ g.at_) (Int.le_refl _)
 refine⟨_,rfl,ro,_,_,_,rfl,rfl,aq.of (sd _ _ dz),rfl,?_⟩
 refine⟨_,rfl,ro,_,_,_,rfl,rfl,aq.of (sd _ _ dz),rfl,?_⟩
 refine⟨_,rfl,ro,_,_,_,rfl,rfl,aq.of (sd _ _ dz),rfl,_,rfl,_,rfl,_,rfl,a,b,ns,n,kv,kp,1,rfl,gd,htr,hk.mono (Tu.of sd) _,hW,by decide,by omega,by omega,λv1 H1 fp1 sY hb1 Fl _ _=>?_⟩
 have zE:=oU ns kp 1 n (by decide)
 rw[hc1] at zE
 have ad1:H1 pd=some (.dK []):=sY _ _ (frB _ hpd) aD
 refine⟨ad1,[(Sum.inr x,.int 0),(Sum.inr y,.int 0),(Sum.inr z,v1)],rfl,by show 3<=15;decide,?_⟩
 rw[zB hxy hxz hyz]
 have hv1:=(T8 hpl (drawn n).1 Fl).2
 have zF:SB b H (upd H1 pd (.dK [(Sum.inr x,.int 0),(Sum.inr y,.int 0),(Sum.inr z,v1)])):=λc o h1 h2=>by
  rw[au (aR h2 hpd)];exact sY c o h1 (sd c o h2)
 have hb1':(upd H1 pd (.dK [(Sum.inr x,.int 0),(Sum.inr y,.int 0),(Sum.inr z,v1)])) b=some (.lst [.int (val ns kp 1 n).2]):=by
  rw[au (Ne.symm (frB _ hpd))];exact hb1
 have hd1:(upd H1 pd (.dK [(Sum.inr x,.int 0),(Sum.inr y,.int 0),(Sum.inr z,v1)])) pd=some (.dK [(Sum.inr x,.int 0),(Sum.inr y,.int 0),(Sum.inr z,v1)]):=aD
 generalize upd H1 pd (.dK [(Sum.inr x,.int 0),(Sum.inr y,.int 0),(Sum.inr z,v1)])=H2 at zF hb1' hd1
 refine⟨dF,λp hp=>?_⟩
 obtain⟨H3,lY,s3,ep⟩:=new1 hp (.lst [.ref pd])
 rw[lY]
 clear lY
 have pq:H p=none:=by
  cases e:H p with
  |none=>rfl
  |some o=>
   have:=zF p o (λz=>by rw[z,hb1'] at hp;cases hp) e
   rw[this] at hp;cases hp
 have T_:p≠b:=frB _ pq
 have nrp:ro≠p:=λz=>by rw[z,pq] at dz;cases dz
 have g3:G0 K H3 a b ns (val ns kp 1 n).2:=g.go (zF.trans (SB.of s3)) (s3 _ _ hb1') (by omega)
 refine⟨_,rfl,_,rfl,a,_,rfl,g3.oV.sq,λps hps=>?_⟩
 rw[show mV (ns.map V.int) none (some 40)=(ns.take 40).map V.int by rw[show(40:Int)=((40:Nat):Int) from rfl,T5,List.map_take]]
 obtain⟨H4,pC,s4,eps⟩:=new1 hps (.lst ((ns.take 40).map V.int))
 rw[pC]
 clear pC
 have zG:ps≠b/\ps≠p:=⟨λz=>(by rw[z,s3 _ _ hb1'] at hps;cases hps),λz=>(by rw[z,ep] at hps;cases hps)⟩
 have ad2:∀H',H' pd=some (.dK [(Sum.inr x,.int 0),(Sum.inr y,.int 0),(Sum.inr z,v1)])->fO [] x y z H' [.ref pd] [(0,(val ns kp 1 n).1)]:=λH' h=>by
  have:=eU.snoc (R:=o8 [] x y z H') eU.nil (w:=.ref pd) (q:=(0,(val ns kp 1 n).1)) ⟨pd,v1,[],rfl,h,hv1 _,λa ha=>absurd ha (by simp)⟩
  exact this
 refine⟨ps,rfl,⟨_,aq.of eps⟩,qH (xs:=(ns.take 40).map V.int) (λi σ H'=>∃x6 x7 x8 ws r n',σ=[some (.ref a),some (.ref b),some (.ref ro),some kv,some (.ref p),some (.int (cW 1 r:Nat)),x6,x7,x8]/\SB b H H'/\H' b=some (.lst [.int n'])/\n<=n'/\n'<=n+1+i/\H' p=some (.lst ws)/\H' ps=some (.lst ((ns.take 40).map V.int))/\fO [] x y z H' ws ((0,(val ns kp 1 n).1)::r)/\fM 1 r/\(∀q∈r,gM kp q.2)/\r.length=i) ?_ ?_ ?_ ?_⟩
 . exact⟨_,_,_,[.ref pd],[],_,rfl,zF.trans (SB.of (s3.trans s4)),s4 _ _ (s3 _ _ hb1'),zE.1,by omega,s4 _ _ ep,eps,ad2 _ (s4 _ _ (s3 _ _ hd1)),trivial,λq hq=>absurd hq (by simp),rfl⟩
 . rintro i σ H' _ ⟨x6,x7,x8,ws,r,n',rfl,_,_,_,_,_,h,_⟩
   exact aq.of h
 . rintro i cv σ H' hcv ⟨x6,x7,x8,ws,r,n',rfl,sb,hb',z1,z2,hp',Ua,hR,sZ,pF,hrl⟩
   rw[List.getElem?_map] at hcv
   cases nu:(ns.take 40)[i]? with
   |none=>rw[nu] at hcv;cases hcv
   |some c=>
    rw[nu] at hcv
    cases hcv
    have apa:i<40:=by
     have:=(List.getElem?_eq_some_iff.mp nu).1
     rw[List.length_take] at this;omega
    have hhi:=T6 (m:=1) (r:=r) (by decide)
    have hmd:=Fg c (show(0:Int)<(cW 1 r:Nat) by omega)
    have hwl:=hR.1
    rw[List.length_cons] at hwl
    have g':G0 K H' a b ns n':=g.go sb hb' z1
    refine⟨_,rfl,_,rfl,_,_,rfl,rfl,(by show(0:Int)<(cW 1 r:Nat);omega),_,_,rfl,rfl,?_⟩
    refine⟨_,rfl,_,rfl,_,rfl,a,b,ns,n',kv,kp,1,rfl,g',htr,hk.mono (sb.tu g.at_) _,hW,by decide,by omega,by omega,λv2 H5 fp5 vY hb5 hO5 _ _=>?_⟩
    have Fo:=oU ns kp 1 n' (by decide)
    rw[hc1] at Fo
    have hv2:=(T8 hpl (drawn n').1 hO5).2
    have j_:=vY _ _ T_ hp'
    have ad5:=vY _ _ zG.1 Ua
    have Fp:=vY _ _ hrb (sb _ _ hrb dz)
    have hR5:fO [] x y z H5 ws ((0,(val ns kp 1 n).1)::r):=hR.imp λj w' q' hq=>hq.sb vY hb' (by simp)
    refine⟨_,rfl,.inl ⟨rfl,_,aq.of j_⟩,λpe hpe=>?_⟩
    have se:Same H5 (upd H5 pe (.dK [])):=Same.new hpe
    refine⟨_,rfl,ro,_,_,_,rfl,rfl,aq.of (se _ _ Fp),rfl,_,rfl,p,ws,rfl,.inl (aq.of (se _ _ j_)),?_⟩
    refine⟨_,rfl,ro,_,_,_,rfl,rfl,aq.of (se _ _ Fp),rfl,_,rfl,?_⟩
    refine⟨_,rfl,ro,_,_,_,rfl,rfl,aq.of (se _ _ Fp),rfl,_,rfl,aD,[(Sum.inr x,.int ws.length),(Sum.inr y,.int (1+c % (cW 1 r:Nat))),(Sum.inr z,v2)],rfl,by show 3<=15;decide,?_⟩
    rw[zB hxy hxz hyz]
    obtain⟨Hd,hE,jr,ed⟩:∃Hd,upd (upd H5 pe (.dK [])) pe (.dK [(Sum.inr x,.int ws.length),(Sum.inr y,.int (1+c % (cW 1 r:Nat))),(Sum.inr z,v2)])=Hd/\Same H5 Hd/\Hd pe=some (.dK [(Sum.inr x,.int ws.length),(Sum.inr y,.int (1+c % (cW 1 r:Nat))),(Sum.inr z,v2)]):=
     ⟨_,rfl,λa o h=>by rw[au (aR h hpe)];exact se a o h,aD⟩
    rw[hE]
    refine⟨p,ws,_,rfl,rfl,jr _ _ j_,dX (by omega),?_⟩
    clear hE
    have Fq:SB p Hd (upd Hd p (.lst (ws++[.ref pe]))):=SB.wr
    have Ub:((1+c % (cW 1 r:Nat)).toNat:Int)=1+c % (cW 1 r:Nat):=by omega
    have row:o8 [] x y z Hd ((0,(val ns kp 1 n).1)::r).length (.ref pe) ((1+c % (cW 1 r:Nat)).toNat,(val ns kp 1 n').1):=⟨pe,v2,[],rfl,by rw[List.length_cons,<-hwl];show Hd pe=some (.dK [(Sum.inr x,.int (ws.length:Nat)),(Sum.inr y,.int ((1+c % (cW 1 r:Nat)).toNat:Nat)),(Sum.inr z,v2)]);rw[Ub];exact ed,hv2 _,λa ha=>absurd ha (by simp)⟩
    refine⟨_,rfl,_,_,rfl,rfl,?_⟩
    refine⟨some (.int c),some (.int (1+c % (cW 1 r:Nat))),some v2,ws++[.ref pe],r++[((1+c % (cW 1 r:Nat)).toNat,(val ns kp 1 n').1)],(val ns kp 1 n').2,?_,?_,?_,by omega,by omega,aD,?_,?_,sZ.snoc (by show 1<=(1+c % (cW 1 r:Nat)).toNat;omega) (by show(1+c % (cW 1 r:Nat)).toNat<=_;omega),?_,by rw[List.length_append,hrl];rfl⟩
    . rw[Fe]
      show _=[some (V.ref a),some (V.ref b),some (V.ref ro),some kv,some (V.ref p),some (V.int (((1+c % (cW 1 r:Nat)).toNat+1:Nat):Int)),some (V.int c),some (V.int (1+c % (cW 1 r:Nat))),some v2]
      rw[Int.natCast_add,Ub];rfl
    . exact λc' o h1 h2=>Fq c' o (λz=>by rw[z,pq] at h2;cases h2) (jr _ _ (vY c' o h1 (sb c' o h1 h2)))
    . rw[au (Ne.symm T_)];exact jr _ _ hb5
    . rw[au zG.2];exact jr _ _ ad5
    . exact((hR5.imp λj w' q' hq=>(hq.sb (SB.of jr (b:=p)) j_ (by simp)).sb Fq (jr _ _ j_) (by simp)).snoc (row.sb Fq (jr _ _ j_) (by simp)))
    . intro q' hq'
      rcases List.mem_append.mp hq' with h|h
      . exact pF q' h
      . rw[List.mem_singleton.mp h];exact drawn n'
 . rintro σ H' ⟨x6,x7,x8,ws,r,n',rfl,sb,hb',z1,z2,hp',Ua,hR,sZ,pF,hrl⟩
   have apc:((ns.take 40).map V.int).length<=40:=by rw[List.length_map,List.length_take];omega
   refine⟨_,rfl,q p ws _ r n' H' sb hb' z1 (by omega) pq hp' hR sZ (λq hq=>?_) (by omega)⟩
   rcases List.mem_cons.mp hq with rfl|hq
   . exact drawn n
   . exact pF q hq
theorem ad7 (xs:List V)(i:Nat):mV xs (some (i:Int)) none=xs.drop i:=by
 unfold mV
 rw[HT.PJ,HT.PK]
 rcases Nat.le_total i xs.length with h|h
 . rw[Nat.min_eq_left h]
   exact List.take_of_length_le (by rw[List.length_drop];exact Nat.le_refl _)
 . rw[Nat.min_eq_right h,List.drop_of_length_le (Nat.le_refl _),List.drop_of_length_le h]
   simp
noncomputable def cX (H:Hp) (x y z:Str) (cs:List Addr) (rs:List (Int × Int × V)):Prop:=cs.length=rs.length/\∀(i:Nat) c r,cs[i]? =some c->rs[i]? =some r->H c=some (.dK [(Sum.inr x,.int r.1),(Sum.inr y,.int r.2.1),(Sum.inr z,r.2.2)])
theorem cX.at {H:Hp}{x y z:Str}{cs:List Addr}{rs:List (Int × Int × V)}(h:cX H x y z cs rs){i:Nat}{c:Addr}(e:cs[i]? =some c):∃r,rs[i]? =some r/\H c=some (.dK [(Sum.inr x,.int r.1),(Sum.inr y,.int r.2.1),(Sum.inr z,r.2.2)]):=by
 obtain⟨hi,_⟩:=List.getElem?_eq_some_iff.mp e
 have hr:rs[i]? =some (rs[i]'(by rw[<-h.1];exact hi)):=List.getElem?_eq_getElem _
 exact⟨_,hr,h.2 i c _ e hr⟩
theorem cX.set {H:Hp}{x y z:Str}{cs:List Addr}{rs:List (Int × Int × V)}(h:cX H x y z cs rs)(nd:cs.Nodup){i:Nat}{c:Addr}(e:cs[i]? =some c)(r:Int × Int × V):cX (upd H c (.dK [(Sum.inr x,.int r.1),(Sum.inr y,.int r.2.1),(Sum.inr z,r.2.2)])) x y z cs (rs.set i r):=by
 refine⟨by rw[List.length_set];exact h.1,λj c' r' hc hr=>?_⟩
 have hi:=(List.getElem?_eq_some_iff.mp e).1
 by_cases hj:j=i
 . subst hj
   rw[e] at hc
   cases hc
   rw[List.getElem?_set_self (by rw[<-h.1];exact hi)] at hr
   cases hr
   exact aD
 . rw[List.getElem?_set_ne (Ne.symm hj)] at hr
   have:c'≠c:=λz=>hj ((List.getElem?_inj (List.getElem?_eq_some_iff.mp hc).1 nd).mp (by rw[hc,e,z]))
   rw[au this]
   exact h.2 j c' r' hc hr
theorem cX.keep {H H':Hp}{x y z:Str}{cs:List Addr}{rs:List (Int × Int × V)}(h:cX H x y z cs rs)(k:∀c∈cs,∀o,H c=some o->H' c=some o):cX H' x y z cs rs:=⟨h.1,λi c r hc hr=>k c (List.mem_of_getElem? hc) _ (h.2 i c r hc hr)⟩
theorem Uc {x y z:Str}{a b c v:V}(h1:x≠y)(h2:x≠z):putK [((Sum.inr x:Key),a),(Sum.inr y,b),(Sum.inr z,c)] (Sum.inr x) v=[(Sum.inr x,v),(Sum.inr y,b),(Sum.inr z,c)]:=by
 unfold putK
 rw[if_pos (by simp)]
 simp[Ne.symm h1,Ne.symm h2]
theorem Ud {x y z:Str}{a b c v:V}(h1:x≠y)(h3:y≠z):putK [((Sum.inr x:Key),a),(Sum.inr y,b),(Sum.inr z,c)] (Sum.inr y) v=[(Sum.inr x,a),(Sum.inr y,v),(Sum.inr z,c)]:=by
 unfold putK
 rw[if_pos (by simp)]
 simp[h1,Ne.symm h3]
theorem rm {x y z:Str}{a b c:V}:dH [((Sum.inr x:Key),a),(Sum.inr y,b),(Sum.inr z,c)] (Sum.inr x)=some a:=lN rfl
theorem vZ {x y z:Str}{a b c:V}(h:x≠y):dH [((Sum.inr x:Key),a),(Sum.inr y,b),(Sum.inr z,c)] (Sum.inr y)=some b:=by
 rw[iR (λe=>h (Sum.inr.inj e))];exact lN rfl
noncomputable def tD (b:Addr) (cs:List Addr) (H H':Hp):Prop:=∀c o,c≠b->c ∉ cs->H c=some o->H' c=some o
noncomputable def pG (v:V):Prop:=(∃w,v=.int w)\/∃w,v=.str w
theorem Ue {rs:List (Int × Int × V)}(h:∀r∈rs,pG r.2.2){i:Nat}{r:Int × Int × V}(hr:pG r.2.2):∀r'∈rs.set i r,pG r'.2.2:=λr' h'=>by
 rcases List.mem_or_eq_of_mem_set h' with e|e
 . exact h r' e
 . rw[e];exact hr
noncomputable def Ug (K:W.Frag):Sp:=λvs H Q _=>∃a b ns n ro sl x y z cs rs,∃st:Int,vs=[.ref a,.ref b,.ref ro,.ref sl,.int st]/\G0 K H a b ns n/\n+2<=1000000000000/\H ro=some (.lst [.str x,.str y,.str z])/\ro≠b/\x≠y/\x≠z/\y≠z/\H sl=some (.lst (cs.map V.ref))/\sl≠b/\cX H x y z cs rs/\(∀r∈rs,pG r.2.2)/\cs.Nodup/\1<=cs.length/\cs.length<=41/\
 ∀rs' H',tD b cs H H'->H' b=some (.lst [.int (n+2)])->cX H' x y z cs rs'->(∀r∈rs',pG r.2.2)->Q .non H'
theorem Uh:b_ ["_law_script","_law_at","_law_row_of","_law_rows_here","_law_sort","_law_place","_law_m","_law_more","_law_row"] ["_law_script","_law_at","_law_row_of","_law_rows_here","_law_sort"] (aM (top 47)):=cI
theorem ad8 (T:Tb mg)(kh:Dn K mg "_law_numbers_off" ["_law_script","_law_at","_law_row_of","_law_rows_here","_law_sort"] (top 47) Ft Fv)(bB:Dn K mg "_law_next" ["_law_script","_law_at"] (top 30) fJ fL)(gh:aH P w K mg base aP (1) fJ fL ["_law_script","_law_at"] (q9 K)):aH P w K mg base aP (2) Ft Fv ["_law_script","_law_at","_law_row_of","_law_rows_here","_law_sort"] (Ug K):=by
 refine kh.F.ok Uh (λvs H Q E h=>?_) (λcdv A outer s H vs Q E hr h=>?_)
 . obtain⟨a,b,ns,n,ro,sl,x,y,z,cs,rs,st,rfl,_⟩:=h
   rfl
 obtain⟨a,b,ns,n,ro,sl,x,y,z,cs,rs,st,rfl,g,hn,dz,hrb,hxy,hxz,hyz,hsl,hsb,hC,tE,hnd,hl1,zH,q⟩:=h
 have nd:=Uh.nd
 have hu:=eO hr
 refine⟨_,(aB (aW (i:=5) nd rfl (Or.inl rfl) (aL cH (bF gh (hr.mono (by omega)) rfl bB.m bB.F.kp bB.b .nil bC (aj (pv 0) (aj (pv 1) ao))) (bN gG (by rfl) T.dY PySem.boot_len (aj (pv 3) ao))))
  (aB (aW (i:=6) nd rfl (Or.inl rfl) (bF gh (hr.mono (by omega)) rfl bB.m bB.F.kp bB.b .nil bC (aj (pv 0) (aj (pv 1) ao))))
  (aB (aW (i:=7) nd rfl (Or.inl rfl) ak)
  (aB (aV (aU bK (aL cH (pv 6) ak) ak (aQ _)) (aC (aW (i:=7) nd rfl (Or.inl rfl) (aL gC ak (pv 6)))) aZ)
  (aC (aV (aU bK (pv 4) ak (aQ _)) (aC (fY PassesOwn.never rfl (jY (uZ Cd (pv 3) (uY (pv 5)) uX)) (cG (i:=8) nd rfl (Or.inl rfl)) (aC (oK hu (pv 8) (aJ bh (pv 2) ak (λ_ _=>rfl)) (aL gC (dD hu (pv 8) (aJ bh (pv 2) ak (λ_ _=>rfl)) (λ_ _=>rfl)) (pv 7)) rfl)))) (aC (aV (aU bK (pv 4) ak (aQ _)) (aC (oK hu (aJ bh (pv 3) (pv 5) (λ_ _=>rfl)) (aJ bh (pv 2) ak (λ_ _=>rfl)) ak rfl)) (aC (aV (aU bK (pv 4) ak (aQ _)) (aC (oK hu (aJ bh (pv 3) (pv 5) (λ_ _=>rfl)) (aJ bh (pv 2) ak (λ_ _=>rfl)) (aL gC (aL gC (dD hu (aJ bh (pv 3) (aL mQ (pv 5) (bN (O8 rfl) (by rfl) T.RX boot_min (aj (pv 5) (aj ak ao)))) (λ_ _=>rfl)) (aJ bh (pv 2) ak (λ_ _=>rfl)) (λ_ _=>rfl)) (bN (O8 rfl) (by rfl) T.RX boot_min (aj (pv 5) (aj ak ao)))) (pv 7)) rfl)) (aC (aV (aU bK (pv 4) ak (aQ _)) (aC (oK hu (aJ bh (pv 3) (pv 5) (λ_ _=>rfl)) (aJ bh (pv 2) ak (λ_ _=>rfl)) (aL mQ ak (pv 7)) rfl)) (aC (aV (aU bK (pv 4) ak (aQ _)) (aC (oK hu (aJ bh (pv 3) (pv 5) (λ_ _=>rfl)) (aJ bh (pv 2) ak (λ_ _=>rfl)) (aL mQ (dD hu (aJ bh (pv 3) (pv 5) (λ_ _=>rfl)) (aJ bh (pv 2) ak (λ_ _=>rfl)) (λ_ _=>rfl)) (pv 7)) rfl)) aZ)))))))))))))),?_⟩
 refine⟨_,rfl,_,rfl,a,b,ns,n,rfl,g,by omega,λm1 H1 m10 _ s1 h1=>?_⟩
 have pH:∀c∈cs,c≠b:=λc hc z=>by
  obtain⟨i,hi,e⟩:=List.getElem_of_mem hc
  obtain⟨r,_,h⟩:=hC.at (i:=i) (c:=c) (by rw[List.getElem?_eq_getElem hi,e])
  rw[z,g.at_] at h;cases h
 have jz:=s1 _ _ hsb hsl
 have g1:=g.go s1 h1 (by omega)
 have Fw:(cs.map V.ref).length=cs.length:=List.length_map _
 have hmd:=Fg m1 (show(0:Int)<((cs.map V.ref).length:Nat) by omega)
 refine⟨_,rfl,sl,_,rfl,.inl (aq.of jz),_,_,rfl,rfl,(by show(0:Int)<((cs.map V.ref).length:Nat);omega),?_⟩
 refine⟨_,rfl,_,rfl,a,b,ns,n+1,rfl,g1,by omega,λm H2 m0 _ s2 h2=>?_⟩
 rw[show n+1+1=n+2 by omega] at h2
 have jQ:=s2 _ _ hrb (s1 _ _ hrb dz)
 have ig:=s2 _ _ hsb jz
 have jR:cX H2 x y z cs rs:=hC.keep λc hc o h=>s2 _ _ (pH c hc) (s1 _ _ (pH c hc) h)
 have k2:tD b cs H H2:=λc o h1 _ h=>s2 _ _ h1 (s1 _ _ h1 h)
 generalize hpl:m1 % (((cs.map V.ref).length:Nat):Int)=pl at hmd
 obtain⟨j,rfl⟩:∃j:Nat,pl=(j:Int):=⟨pl.toNat,by omega⟩
 have hj:j<cs.length:=by omega
 dsimp only[dG]
 refine j9 (A:=mL _ _) (λσ' H'=>σ'=[some (.ref a),some (.ref b),some (.ref ro),some (.ref sl),some (.int st),some (.int (j:Nat)),some (.int m),some (.int 1),none]/\H'=H2) ?_ (λhB=>hB _ _ ⟨by rw[hpl];rfl,rfl⟩)
 rintro _ H2' ⟨rfl,e2⟩
 subst e2
 refine j9 (A:=lH _ _ _) (λσ' H'=>∃mo:Int,σ'=[some (.ref a),some (.ref b),some (.ref ro),some (.ref sl),some (.int st),some (.int (j:Nat)),some (.int m),some (.int mo),none]/\H'=H2') ?_ (λhB=>?_)
 rotate_left
 . refine⟨_,rfl,_,_,rfl,rfl,(by show(0:Int)<2;decide),rfl,_,rfl,cu (λc=>?_) (λc=>?_)⟩
   . exact⟨_,rfl,_,_,rfl,rfl,hB _ _ ⟨1+m,rfl,rfl⟩⟩
   . exact hB _ _ ⟨1,rfl,rfl⟩
 rintro _ aea ⟨mo,rfl,e3⟩
 subst e3
 obtain⟨cj,hcj⟩:∃cj,cs[j]? =some cj:=⟨cs[j],List.getElem?_eq_getElem hj⟩
 obtain⟨rj,tG,jA⟩:=jR.at hcj
 have pI:dj (cs.map V.ref) ((j:Nat):Int)=some (.ref cj):=iG (by rw[List.getElem?_map,hcj];rfl)
 have wr:∀(H':Hp) (c:Addr) (o:HO),c∈cs->tD b cs H H'->tD b cs H (upd H' c o):=λH' c o hc k c' o' h1 h2 h=>by
  rw[au (λz=>h2 (by rw[z];exact hc))];exact k c' o' h1 h2 h
 have hb2:∀(H':Hp) (c:Addr) (o:HO) (u:HO),c∈cs->H' b=some u->upd H' c o b=some u:=λH' c o u hc h=>by
  rw[au (Ne.symm (pH c hc))];exact h
 have Ui:∀{H':Hp} {c:Addr} {r:Int × Int × V},H' c=some (.dK [(Sum.inr x,.int r.1),(Sum.inr y,.int r.2.1),(Sum.inr z,r.2.2)])->cC H' c (.str x) (some (.int r.1)):=λh=>by
  have:=cC.k (k:=Sum.inr x) h;rw[rm] at this;exact this
 have dgy:∀{H':Hp} {c:Addr} {r:Int × Int × V},H' c=some (.dK [(Sum.inr x,.int r.1),(Sum.inr y,.int r.2.1),(Sum.inr z,r.2.2)])->cC H' c (.str y) (some (.int r.2.1)):=λh=>by
  have:=cC.k (k:=Sum.inr y) h;rw[vZ hxy] at this;exact this
 have Uj:∀{H':Hp} {c:Addr} {r:Int × Int × V} {u:Int},H' c=some (.dK [(Sum.inr x,.int r.1),(Sum.inr y,.int r.2.1),(Sum.inr z,r.2.2)])->jH H' c (.str x) (.int u) (upd H' c (.dK [(Sum.inr x,.int u),(Sum.inr y,.int r.2.1),(Sum.inr z,r.2.2)])):=λ{H' c r u} h=>by
  have:=jH.k (k:=Sum.inr x) (v:=.int u) h (dX (by show 3<=1000;decide));rw[Uc hxy hxz] at this;exact this
 have Fx:∀{H':Hp} {c:Addr} {r:Int × Int × V} {u:Int},H' c=some (.dK [(Sum.inr x,.int r.1),(Sum.inr y,.int r.2.1),(Sum.inr z,r.2.2)])->jH H' c (.str y) (.int u) (upd H' c (.dK [(Sum.inr x,.int r.1),(Sum.inr y,.int u),(Sum.inr z,r.2.2)])):=λ{H' c r u} h=>by
  have:=jH.k (k:=Sum.inr y) (v:=.int u) h (dX (by show 3<=1000;decide));rw[Ud hxy hyz] at this;exact this
 have nF:cj∈cs:=List.mem_of_getElem? hcj
 have fin:∀(u1 u2:Int),Q .non (upd aea cj (.dK [(Sum.inr x,.int u1),(Sum.inr y,.int u2),(Sum.inr z,rj.2.2)])):=λu1 u2=>q _ _ (wr _ _ _ nF k2) (hb2 _ _ _ _ nF h2) (jR.set hnd hcj (u1,u2,rj.2.2)) (Ue tE (tE rj (List.mem_of_getElem? tG)))
 refine⟨_,rfl,rfl,_,rfl,cu (λc=>?_) (λc=>?_)⟩
 . refine⟨_,rfl,_,rfl,_,rfl,sl,_,rfl,aq.of ig,λps hps=>?_⟩
   rw[ad7]
   have v5:=Same.new hps (o:=.lst ((cs.map V.ref).drop j))
   have zG:ps≠b/\ps ∉ cs:=⟨λz=>(by rw[z,h2] at hps;cases hps),λz=>(by
    obtain⟨i,hi,e⟩:=List.getElem_of_mem z
    obtain⟨r,_,h⟩:=jR.at (i:=i) (c:=ps) (by rw[List.getElem?_eq_getElem hi,e])
    rw[h] at hps;cases hps)⟩
   refine⟨ps,rfl,⟨_,aq.of aD⟩,qH (xs:=(cs.map V.ref).drop j) (λi σ' H'=>∃x8 rs',σ'=[some (.ref a),some (.ref b),some (.ref ro),some (.ref sl),some (.int st),some (.int (j:Nat)),some (.int m),some (.int mo),x8]/\tD b cs H H'/\H' b=some (.lst [.int (n+2)])/\H' ps=some (.lst ((cs.map V.ref).drop j))/\cX H' x y z cs rs'/\∀r∈rs',pG r.2.2) ⟨_,rs,rfl,λc' o h1 h2 h=>v5 _ _ (k2 c' o h1 h2 h),v5 _ _ h2,aD,jR.keep λc' hc' o h=>v5 _ _ h,tE⟩ ?_ ?_ ?_⟩
   . rintro i σ' H' _ ⟨x8,rs',rfl,_,_,h,_⟩
     exact aq.of h
   . rintro i cv σ' H' hcv ⟨x8,rs',rfl,kk,hbb,hpp,zJ,zK⟩
     rw[List.getElem?_drop,List.getElem?_map] at hcv
     cases nu:cs[j+i]? with
     |none=>rw[nu] at hcv;cases hcv
     |some ci=>
      rw[nu] at hcv
      cases hcv
      obtain⟨ri,Dh,zL⟩:=zJ.at nu
      have Fy:ci∈cs:=List.mem_of_getElem? nu
      have aec:ro ∉ cs:=λz=>by
       obtain⟨i,hi,e⟩:=List.getElem_of_mem z
       obtain⟨r,_,h⟩:=hC.at (i:=i) (c:=ro) (by rw[List.getElem?_eq_getElem hi,e])
       rw[h] at dz;cases dz
      have Uk:=kk _ _ hrb aec dz
      refine⟨_,rfl,_,rfl,ro,_,_,_,rfl,rfl,aq.of Uk,rfl,ci,_,rfl,Ui zL,_,rfl,_,_,rfl,rfl,_,rfl,_,rfl,ro,_,_,_,rfl,rfl,aq.of Uk,rfl,ci,_,rfl,Uj zL,?_⟩
      exact⟨_,_,rfl,wr _ _ _ Fy kk,hb2 _ _ _ _ Fy hbb,by rw[au (λz=>zG.2 (by rw[z];exact Fy))];exact hpp,zJ.set hnd nu (ri.1+mo,ri.2.1,ri.2.2),Ue zK (zK ri (List.mem_of_getElem? Dh))⟩
   . rintro σ' H' ⟨x8,rs',rfl,kk,hbb,hpp,zJ,zK⟩
     exact q _ _ kk hbb zJ zK
 refine⟨_,rfl,rfl,_,rfl,cu (λc=>?_) (λc=>?_)⟩
 . exact⟨_,rfl,_,rfl,sl,_,_,_,rfl,rfl,aq.of ig,pI,_,rfl,ro,_,_,_,rfl,rfl,aq.of jQ,rfl,cj,_,rfl,Fx jA,fin _ _⟩
 refine⟨_,rfl,rfl,_,rfl,cu (λc=>?_) (λc=>?_)⟩
 . obtain⟨jp,ejp,hjp⟩:∃jp:Nat,((j:Nat):Int) - (if(1:Int)<((j:Nat):Int) then 1 else((j:Nat):Int))=(jp:Int)/\jp<cs.length:=⟨j - min j 1,by split <;> omega,by omega⟩
   obtain⟨cp,hcp⟩:∃cp,cs[jp]? =some cp:=⟨cs[jp],List.getElem?_eq_getElem hjp⟩
   obtain⟨rp,Fz,aef⟩:=jR.at hcp
   have FJ:dj (cs.map V.ref) (((j:Nat):Int) - (if(1:Int)<((j:Nat):Int) then 1 else((j:Nat):Int)))=some (.ref cp):=by rw[ejp];exact iG (by rw[List.getElem?_map,hcp];rfl)
   exact⟨_,rfl,_,rfl,_,rfl,_,_,rfl,_,_,rfl,rfl,sl,_,_,_,rfl,rfl,aq.of ig,FJ,_,rfl,ro,_,_,_,rfl,rfl,aq.of jQ,rfl,cp,_,rfl,dgy aef,_,rfl,_,_,rfl,_,_,rfl,rfl,_,rfl,_,_,rfl,rfl,_,rfl,_,rfl,sl,_,_,_,rfl,rfl,aq.of ig,pI,_,rfl,ro,_,_,_,rfl,rfl,aq.of jQ,rfl,cj,_,rfl,Fx jA,fin _ _⟩
 refine⟨_,rfl,rfl,_,rfl,cu (λc=>?_) (λc=>?_)⟩
 . exact⟨_,rfl,_,_,rfl,rfl,_,rfl,_,rfl,sl,_,_,_,rfl,rfl,aq.of ig,pI,_,rfl,ro,_,_,_,rfl,rfl,aq.of jQ,rfl,cj,_,rfl,Fx jA,fin _ _⟩
 refine⟨_,rfl,rfl,_,rfl,cu (λc=>?_) (λc=>?_)⟩
 . exact⟨_,rfl,_,rfl,sl,_,_,_,rfl,rfl,aq.of ig,pI,_,rfl,ro,_,_,_,rfl,rfl,aq.of jQ,rfl,cj,_,rfl,Ui jA,_,rfl,_,_,rfl,rfl,_,rfl,_,rfl,sl,_,_,_,rfl,rfl,aq.of ig,pI,_,rfl,ro,_,_,_,rfl,rfl,aq.of jQ,rfl,cj,_,rfl,Uj jA,fin _ _⟩
 . exact q _ _ k2 h2 jR tE
end Pb
namespace L2
open PySem PySem.Spec PyProof.Rows
section
variable {prog:Program}{w:World}{A:Around}{E:Value->Shared->Prop}{s:Shared}
end
section
variable {X:Cx}
end
end L2
namespace Pb
open PySem L2
end Pb
namespace L2
open PySem PySem.Spec PyProof.Rows
section
variable {X:Cx}
theorem aeg:eZ X (.type "dict") (λxs H Q=>∃a kvs,xs=[.ref a]/\H a=some (.dK kvs)/\∀l,H l=none->Q (.ref l) (upd H l (.dK kvs))):=by
 intro pins s σ H xs us Q I r h
 obtain⟨a,kvs,rfl,hH,q⟩:=h
 obtain⟨u,rfl,ru⟩:=vals1 r
 cases ru
 obtain⟨z,sm,vs,kv,dd⟩:=yg I.hok hH
 refine kt_call_dict sm dd (by rw[<-kv.length];exact z) λh' hd hs=>?_
 have hb:(s.heap.objs.size == sysModules)=false:=beq_eq_false_iff_ne.mpr (Nat.ne_of_gt I.big)
 refine⟨.ref s.heap.objs.size,_,I.laid (a:=s.heap.objs.size) (o:=.dK kvs) (t':=s.toks) (λb o e=>?_) (Nat.le_refl _) ⟨z,hb,vs,kv,hd⟩,rfl,q _ (I.hok.fresh (Nat.le_refl _))⟩
 exact hs.extBut b o (Nat.ne_of_lt (Heap.lt_size e)) (Heap.get?_push_of_some _ e)
end
section
variable {X:Cx}
noncomputable def aeh:V->List V->Hp->VK->Prop:=λx vs H Q=>∃a kvs k v,x=.ref a/\vs=[kV k]/\H a=some (.dK kvs)/\dH kvs k=some v/\Q v (upd H a (.dK (mZ kvs k)))
theorem aei:xY X "dict.pop" aeh:=by
 intro pins s σ H x vs v us Q I rx rv h
 obtain⟨a,kvs,k,w,rfl,rfl,hH,hv,q⟩:=h
 obtain⟨u,rfl,ru⟩:=vals1 rv
 cases rx
 exact abt I hH ru hv (.inl rfl) λw' s3 I3 r=>⟨w,_,I3,r,q⟩
end
end L2
namespace L2
open PySem
structure lZ (X:Cx) (e:Expr) (t:TE):Prop where
 w:PE X e t
noncomputable def zM:List TE->TA
 |[]=>jG
 |t::r=>gF t (zM r)
inductive eV (X:Cx):List Expr->List TE->Prop
 |nil:eV X [] []
 |cons {e:Expr} {es:List Expr} {t:TE} {ts:List TE} (h:lZ X e t) (hs:∀es,starEach (e::es) X.env=(false,eval e X.env)::starEach es X.env) (r:eV X es ts):eV X (e::es) (t::ts)
section
variable {X:Cx}{e:Expr}{es:List Expr}{te:TE}{ts:List TE}{pos:Pos}
theorem eV.pa (h:eV X es ts):PA X es (zM ts):=by
 induction h with
 |nil=>exact ao
 |cons h hs _ ih=>exact aj h.w ih (hs _)
theorem eV.lst (h:eV X es ts):lZ X (.List es pos) (Pj (zM ts)):=⟨cL h.pa⟩
theorem eV.tup {x1}(h:eV X es ts):lZ X (.Tuple es x1 pos) (xV (zM ts)):=⟨dR h.pa⟩
structure jT (X:Cx) (ss:List Stmt) (t:TS):Prop where
 w:gP X ss t
theorem jT.cons {s:Stmt}{ss:List Stmt}{t u:TS}(h:PS X s t)(r:jT X ss u):jT X (s::ss) (xK t u):=⟨aB h r.w⟩
theorem aej {c:Expr}{a b:List Stmt}{tc:TT}{t u:TS}(hc:PT X c tc)(ha:jT X a t)(hb:gP X b u):PS X (.If c a b pos) (lH tc t u):=aV hc ha.w hb
structure Ul (X:Cx) (s:Stmt) (t:TS):Prop where
 w:PS X s t
theorem jT.aek {s:Stmt}{ss:List Stmt}{t u:TS}(h:Ul X s t)(r:jT X ss u):jT X (s::ss) (xK t u):=⟨aB h.w r.w⟩
theorem jT.one {s:Stmt}{t:TS}(h:PS X s t):jT X [s] t:=⟨aC h⟩
theorem lZ.set {i:Nat}{x:Str}{pos':Pos}(hN:X.N.Nodup)(hi:X.N[i]? =some x)(hx:Loc X.env.scope x)(he:lZ X e te)(hs:swapsWith e (some (.Name x pos')) pos.line X.env=pure false)(hf:X.fn x=true\/X.env.scope.names.lookup x=some .local):Ul X (.Assign [.Name x pos'] e pos) (mL te (dG i)):=⟨aW hN hi hx he.w hs hf⟩
end
end L2
namespace Pb
open PySem L2
inductive Ce where
 |int (z:Int)
 |str (s:Str)
 |jk
noncomputable def dZ (H:Hp) (v:V):Ce->Prop
 | .int z=>v=.int z
 | .str s=>v=.str s
 | .jk=>v=.non\/v=.bl true\/∃a,v=.ref a/\(H a=some (.lst [])\/H a=some (.dK [])\/H a=some (.tup []))
theorem dZ.keep {H H':Hp}(k:∀a o,H a=some o->(o=.lst []\/o=.dK []\/o=.tup [])->H' a=some o){v:V}{c:Ce}(h:dZ H v c):dZ H' v c:=by
 cases c with
 |int z=>exact h
 |str s=>exact h
 |jk=>
  rcases h with h|h|⟨a,e,h⟩
  . exact .inl h
  . exact .inr (.inl h)
  . refine .inr (.inr ⟨a,e,?_⟩)
    rcases h with h|h|h
    . exact .inl (k a _ h (.inl rfl))
    . exact .inr (.inl (k a _ h (.inr (.inl rfl))))
    . exact .inr (.inr (k a _ h (.inr (.inr rfl))))
noncomputable abbrev GR:=Option (Ce × Ce × Ce)
noncomputable def kj (H:Hp) (x y z:Str) (c:Addr):GR->Prop
 |some (c0,c1,c2)=>∃v0 v1 v2,H c=some (.dK [(Sum.inr x,v0),(Sum.inr y,v1),(Sum.inr z,v2)])/\dZ H v0 c0/\dZ H v1 c1/\dZ H v2 c2
 |none=>∃kvs,H c=some (.dK kvs)/\kvs.length=2
noncomputable def GL (H:Hp) (x y z:Str) (cs:List Addr) (gs:List GR):Prop:=cs.length=gs.length/\∀(i:Nat) c g,cs[i]? =some c->gs[i]? =some g->kj H x y z c g
noncomputable def pJ:V->Ce
 | .int z=>.int z
 | .str s=>.str s
 |_=>.jk
theorem cX.gl {H:Hp}{x y z:Str}{cs:List Addr}{rs:List (Int × Int × V)}(h:cX H x y z cs rs)(hp:∀r∈rs,(∃w,r.2.2=.int w)\/∃w,r.2.2=.str w):GL H x y z cs (rs.map λr=>some (.int r.1,.int r.2.1,pJ r.2.2)):=by
 refine⟨by rw[List.length_map];exact h.1,λi c g hc hg=>?_⟩
 rw[List.getElem?_map] at hg
 cases hr:rs[i]? with
 |none=>rw[hr] at hg;cases hg
 |some r=>
  rw[hr] at hg
  cases hg
  refine⟨_,_,_,h.2 i c r hc hr,rfl,rfl,?_⟩
  rcases hp r (List.mem_of_getElem? hr) with⟨w,e⟩|⟨w,e⟩ <;> rw[e] <;> rfl
theorem str1 {f g:Str}{rest:List V}{K:W.Frag}{H:Hp}:Q9 K H 0 (.str f::rest) [.str g] (λ_=>decide (f=g)):=λj x y h1 h2=>by
 cases j with
 |zero=>
  cases h1
  cases h2
  exact jy.str f g
 |succ j=>cases h2
theorem zN (f g:Str)(rest:List V):((List.range (min (V.str f::rest).length [V.str g].length)).all (λ_=>decide (f=g)) && (V.str f::rest).length == [V.str g].length)=(decide (f=g) && decide (rest=[])):=by
 have e:min (V.str f::rest).length [V.str g].length=1:=by
  show min (rest.length+1) 1=1
  omega
 rw[e]
 have e2:((V.str f::rest).length == [V.str g].length)=decide (rest=[]):=by
  cases rest with
  |nil=>rfl
  |cons a r=>rfl
 rw[e2]
 show(((decide (f=g)) && true) && _)=_
 rw[Bool.and_true]
theorem ael {x y z:Str}{a b c v:V}(h2:x≠z)(h3:y≠z):putK [((Sum.inr x:Key),a),(Sum.inr y,b),(Sum.inr z,c)] (Sum.inr z) v=[(Sum.inr x,a),(Sum.inr y,b),(Sum.inr z,v)]:=by
 unfold putK
 rw[if_pos (by simp)]
 simp[h2,h3]
theorem cX.Um {H H':Hp}{x y z:Str}{cs:List Addr}{rs:List (Int × Int × V)}(h:cX H x y z cs rs)(hp:∀r∈rs,(∃w,r.2.2=.int w)\/∃w,r.2.2=.str w)(nd:cs.Nodup){j:Nat}{c:Addr}(e:cs[j]? =some c)(k:∀c'∈cs,c'≠c->∀o,H c'=some o->H' c'=some o){g:GR}(hg:kj H' x y z c g):GL H' x y z cs ((rs.map λr=>(some (.int r.1,.int r.2.1,pJ r.2.2):GR)).set j g):=by
 refine⟨by rw[List.length_set,List.length_map];exact h.1,λi c' g' hc hg'=>?_⟩
 have hj:=(List.getElem?_eq_some_iff.mp e).1
 by_cases hi:i=j
 . subst hi
   rw[e] at hc
   cases hc
   rw[List.getElem?_set_self (by rw[List.length_map,<-h.1];exact hj)] at hg'
   cases hg'
   exact hg
 . rw[List.getElem?_set_ne (Ne.symm hi),List.getElem?_map] at hg'
   have hne:c'≠c:=λz=>hi ((List.getElem?_inj (List.getElem?_eq_some_iff.mp hc).1 nd).mp (by rw[hc,e,z]))
   cases hr:rs[i]? with
   |none=>rw[hr] at hg';cases hg'
   |some r=>
    rw[hr] at hg'
    cases hg'
    refine⟨_,_,_,k c' (List.mem_of_getElem? hc) hne _ (h.2 i c' r hc hr),rfl,rfl,?_⟩
    rcases hp r (List.mem_of_getElem? hr) with⟨w,e⟩|⟨w,e⟩ <;> rw[e] <;> rfl
theorem aem {x y z:Str}{a b c:V}(h1:x≠y)(h2:x≠z)(h3:y≠z){nm:Str}(h:nm=x\/nm=y\/nm=z):(mZ [((Sum.inr x:Key),a),(Sum.inr y,b),(Sum.inr z,c)] (Sum.inr nm)).length=2/\∃v,dH [((Sum.inr x:Key),a),(Sum.inr y,b),(Sum.inr z,c)] (Sum.inr nm)=some v:=by
 rcases h with rfl|rfl|rfl
 . exact⟨by simp[mZ,Ne.symm h1,Ne.symm h2],a,lN rfl⟩
 . exact⟨by simp[mZ,h1,Ne.symm h3],b,vZ h1⟩
 . exact⟨by simp[mZ,h2,h3],c,by rw[iR (λe=>h2 (Sum.inr.inj e)),iR (λe=>h3 (Sum.inr.inj e))];exact lN rfl⟩
noncomputable def Uo (K:W.Frag):Sp:=λvs H Q _=>∃a b ns n ro kv kp sl x y z cs rs,vs=[.ref a,.ref b,.ref ro,kv,.ref sl]/\G0 K H a b ns n/\n+2<=1000000000000/\H ro=some (.lst [.str x,.str y,.str z])/\ro≠b/\x≠y/\x≠z/\y≠z/\KA H kv kp/\fC kp/\H sl=some (.lst (cs.map V.ref))/\sl≠b/\cX H x y z cs rs/\(∀r∈rs,(∃w,r.2.2=.int w)\/∃w,r.2.2=.str w)/\cs.Nodup/\1<=cs.length/\cs.length<=41/\
 ∀cs' gs H',(∀c o,c≠b->c≠sl->c ∉ cs->H c=some o->H' c=some o)->H' b=some (.lst [.int (n+2)])->H' sl=some (.lst (cs'.map V.ref))->GL H' x y z cs' gs->cs'.length<=41->Q .non H'
variable {P:Program}{w:World}{K:W.Frag}{mg:Str->Option Value}{base:Heap}
theorem Uq:b_ ["_law_script","_law_at","_law_row_of","_law_part","_law_rows_here","_law_place","_law_m","_law_name","_law_things"] ["_law_script","_law_at","_law_row_of","_law_part","_law_rows_here"] (aM (top 48)):=cI
theorem aen (T:Tb mg)(pK:Dn K mg "_law_rows_off" ["_law_script","_law_at","_law_row_of","_law_part","_law_rows_here"] (top 48) FN FP)(bB:Dn K mg "_law_next" ["_law_script","_law_at"] (top 30) fJ fL)(gh:aH P w K mg base aP (1) fJ fL ["_law_script","_law_at"] (q9 K)):aH P w K mg base aP (2) FN FP ["_law_script","_law_at","_law_row_of","_law_part","_law_rows_here"] (Uo K):=by
 refine pK.F.ok Uq (λvs H Q E h=>?_) (λcdv A outer s H vs Q E hr h=>?_)
 . obtain⟨a,b,ns,n,ro,kv,kp,sl,x,y,z,cs,rs,rfl,_⟩:=h
   rfl
 obtain⟨a,b,ns,n,ro,kv,kp,sl,x,y,z,cs,rs,rfl,g,hn,dz,hrb,hxy,hxz,hyz,hk,hpk,hsl,hsb,hC,hpv,hnd,hl1,zH,q⟩:=h
 have nd:=Uq.nd
 have hu:=eO hr
 refine⟨_,(aB (aW (i:=5) nd rfl (Or.inl rfl) (aL cH (bF gh (hr.mono (by omega)) rfl bB.m bB.F.kp bB.b .nil bC (aj (pv 0) (aj (pv 1) ao))) (bN gG (by rfl) T.dY PySem.boot_len (aj (pv 4) ao))))
  (aB (aW (i:=6) nd rfl (Or.inl rfl) (bF gh (hr.mono (by omega)) rfl bB.m bB.F.kp bB.b .nil bC (aj (pv 0) (aj (pv 1) ao))))
  (aB (aW (i:=7) nd rfl (Or.inl rfl) (aJ bh (pv 2) (aL cH (aL gU (pv 6) ak) ak) (λ_ _=>rfl)))
  (aC (aV (aU bK (aL cH (pv 6) ak) ak (aQ _)) (aC (jj (aa9 PySem.F.plainAttrs_list PySem.F.slot_list_clear PySem.F.type_list_clear abk (pv 4)))) (aC (aV (aU bK (aL cH (pv 6) ak) ak (aQ _)) (aC (jj (mY PySem.F.plainAttrs_dict PySem.F.slot_dict_pop PySem.F.type_dict_pop aei (aJ bh (pv 4) (pv 5) (λ_ _=>rfl)) (aj (pv 7) ao)))) (aC (aej (aU bK (aL cH (pv 6) ak) ak (aQ _)) (jT.aek (lZ.set (i:=8) nd rfl (Or.inl rfl) (eV.lst (eV.cons (lZ.mk iQ) (λ_=>rfl) (eV.cons (lZ.mk iM) (λ_=>rfl) (eV.cons (eV.lst eV.nil) (λ_=>rfl) (eV.cons (lZ.mk Cm) (λ_=>rfl) (eV.cons (eV.tup eV.nil) (λ_=>rfl) (eV.cons (lZ.mk bJ) (λ_=>rfl) eV.nil))))))) rfl (by first|exact .inl rfl|exact .inr rfl)) (jT.cons (aV (PW.pt (oF (aU bK (pv 7) (aJ bh (pv 2) ak (λ_ _=>rfl)) (aQ _)) (oE (aU (Di (n:=0) hu) (pv 3) (dR (aj bJ ao)) (aQ _))))) (aC (Ov ak (Ou (pv 8) ak set_list))) aZ) (jT.one (oK hu (aJ bh (pv 4) (pv 5) (λ_ _=>rfl)) (pv 7) (aJ bh (pv 8) (aL cH (aL gU (pv 6) ak) ak) (λ_ _=>rfl)) rfl)))) aZ))))))))),?_⟩
 refine⟨_,rfl,_,rfl,a,b,ns,n,rfl,g,by omega,λm1 H1 m10 _ s1 h1=>?_⟩
 have pH:∀c∈cs,c≠b:=λc hc z=>by
  obtain⟨i,hi,e⟩:=List.getElem_of_mem hc
  obtain⟨r,_,h⟩:=hC.at (i:=i) (c:=c) (by rw[List.getElem?_eq_getElem hi,e])
  rw[z,g.at_] at h;cases h
 have jz:=s1 _ _ hsb hsl
 have g1:=g.go s1 h1 (by omega)
 have Fw:(cs.map V.ref).length=cs.length:=List.length_map _
 have hmd:=Fg m1 (show(0:Int)<((cs.map V.ref).length:Nat) by omega)
 refine⟨_,rfl,sl,_,rfl,.inl (aq.of jz),_,_,rfl,rfl,(by show(0:Int)<((cs.map V.ref).length:Nat);omega),?_⟩
 refine⟨_,rfl,_,rfl,a,b,ns,n+1,rfl,g1,by omega,λm H2 m0 _ s2 h2=>?_⟩
 rw[show n+1+1=n+2 by omega] at h2
 have jQ:=s2 _ _ hrb (s1 _ _ hrb dz)
 have ig:=s2 _ _ hsb jz
 have jR:cX H2 x y z cs rs:=hC.keep λc hc o h=>s2 _ _ (pH c hc) (s1 _ _ (pH c hc) h)
 have hk2:KA H2 kv kp:=hk.mono ((s1.tu g.at_).trans (s2.tu g1.at_)) _
 have k2:∀c o,c≠b->H c=some o->H2 c=some o:=λc o h1 h=>s2 _ _ h1 (s1 _ _ h1 h)
 generalize hpl:m1 % (((cs.map V.ref).length:Nat):Int)=pl at hmd
 obtain⟨j,rfl⟩:∃j:Nat,pl=(j:Int):=⟨pl.toNat,by omega⟩
 have hj:j<cs.length:=by omega
 obtain⟨nm,hnm,Ur⟩:∃nm,dj [V.str x,V.str y,V.str z] (m / 5 % 3)=some (.str nm)/\(nm=x\/nm=y\/nm=z):=by
  have h3:m / 5 % 3=0\/m / 5 % 3=1\/m / 5 % 3=2:=by omega
  rcases h3 with h|h|h <;> rw[h]
  . exact⟨x,rfl,.inl rfl⟩
  . exact⟨y,rfl,.inr (.inl rfl)⟩
  . exact⟨z,rfl,.inr (.inr rfl)⟩
 obtain⟨cj,hcj⟩:∃cj,cs[j]? =some cj:=⟨cs[j],List.getElem?_eq_getElem hj⟩
 obtain⟨rj,tG,jA⟩:=jR.at hcj
 have nF:cj∈cs:=List.mem_of_getElem? hcj
 have pI:dj (cs.map V.ref) (m1 % (((cs.map V.ref).length:Nat):Int))=some (.ref cj):=by rw[hpl];exact iG (by rw[List.getElem?_map,hcj];rfl)
 have Us:sl ∉ cs:=λz=>by
  obtain⟨i,hi,e⟩:=List.getElem_of_mem z
  obtain⟨r,_,h⟩:=jR.at (i:=i) (c:=sl) (by rw[List.getElem?_eq_getElem hi,e])
  rw[h] at ig;cases ig
 have gl2:=jR.gl hpv
 refine⟨_,rfl,_,rfl,_,_,rfl,rfl,⟨by decide,by decide⟩,_,_,rfl,rfl,(by show(0:Int)<3;decide),ro,_,_,_,rfl,rfl,aq.of jQ,hnm,?_⟩
 refine⟨_,rfl,_,_,rfl,rfl,(by show(0:Int)<5;decide),rfl,_,rfl,cu (λc=>?_) (λc=>?_)⟩
 . refine⟨_,rfl,.inl ⟨rfl,_,aq.of ig⟩,sl,_,rfl,rfl,ig,?_⟩
   refine q [] [] _ (λc o h1 h2 _ h=>by rw[au h2];exact k2 c o h1 h) (by rw[au (Ne.symm hsb)];exact h2) aD ⟨rfl,λi c g h=>by simp at h⟩ (by simp)
 refine⟨_,rfl,_,_,rfl,rfl,(by show(0:Int)<5;decide),rfl,_,rfl,cu (λc=>?_) (λc=>?_)⟩
 . obtain⟨d2,v0,hv0⟩:=aem (a:=V.int rj.1) (b:=V.int rj.2.1) (c:=rj.2.2) hxy hxz hyz Ur
   refine⟨_,rfl,_,rfl,sl,_,_,_,rfl,rfl,aq.of ig,pI,.inr (.inr (.inl ⟨rfl,.inl ⟨_,jA⟩⟩)),_,rfl,cj,_,Sum.inr nm,v0,rfl,rfl,jA,hv0,?_⟩
   refine q cs _ _ (λc o h1 h2 h3 h=>by rw[au (λz=>h3 (by rw[z];exact nF))];exact k2 c o h1 h) (by rw[au (Ne.symm (pH _ nF))];exact h2) (by rw[au (λz=>Us (by rw[z];exact nF))];exact ig) (jR.Um hpv hnd hcj (λc' _ hne o h=>by rw[au hne];exact h) (g:=none) ⟨_,aD,d2⟩) zH
 refine⟨_,rfl,_,_,rfl,rfl,(by show(0:Int)<5;decide),rfl,_,rfl,cu (λc=>?_) (λc=>?_)⟩
 rotate_left
 . exact q cs _ _ (λc o h1 _ _ h=>k2 c o h1 h) h2 ig gl2 zH
 refine⟨Nat.zero_le _,λp1 h1'=>λp2 h2'=>⟨Nat.zero_le _,λp3 h3'=>⟨Og,λp4 h4'=>?_⟩⟩⟩
 obtain⟨G1,e1,r1,FQ⟩:=new1 h1' (.lst [])
 rw[e1] at h2' h3' h4' ⊢
 obtain⟨G2,e2,r2,FW⟩:=new1 h2' (.dK [])
 rw[e2] at h3' h4' ⊢
 obtain⟨G3,e3,r3,FZ⟩:=new1 h3' (.tup [])
 rw[e3] at h4' ⊢
 obtain⟨G4,e4,r4,Ga⟩:=new1 h4' (.lst [.non,.bl true,.ref p1,.ref p2,.ref p3,.str "7"])
 rw[e4]
 have t4:=r1.trans (r2.trans (r3.trans r4))
 clear e1 e2 e3 e4
 dsimp only[dG]
 refine j9 (A:=lH _ _ _) (λσ' H'=>∃lv,σ'=[some (.ref a),some (.ref b),some (.ref ro),some kv,some (.ref sl),some (.int (j:Nat)),some (.int m),some (.str nm),some (.ref p4)]/\(lv=.str "7"\/lv=.int 7)/\Same H2 H'/\H' p1=some (.lst [])/\H' p2=some (.dK [])/\H' p3=some (.tup [])/\H' p4=some (.lst [.non,.bl true,.ref p1,.ref p2,.ref p3,lv])) ?_ (λhB=>?_)
 . rintro _ H5 ⟨lv,rfl,hlv,s5,q1,q2,q3,q4⟩
   have njk:∀{p:Addr} {o:HO},H2 p=none->p≠cj:=λhp z=>by rw[z,jA] at hp;cases hp
   have back:∀{p:Addr} {G:Hp},Same H2 G->G p=none->H2 p=none:=λ{p G} s hp=>by
    cases e:H2 p with
    |none=>rfl
    |some o=>rw[s _ _ e] at hp;cases hp
   have np1:p1≠cj:=λz=>by rw[z,jA] at h1';cases h1'
   have np2:p2≠cj:=λz=>by rw[z,r1 _ _ jA] at h2';cases h2'
   have np3:p3≠cj:=λz=>by rw[z,r2 _ _ (r1 _ _ jA)] at h3';cases h3'
   obtain⟨tv,ce,htv,hce⟩:∃tv ce,dj [V.non,.bl true,.ref p1,.ref p2,.ref p3,lv] (m / 15 % 6)=some tv/\∀o,dZ (upd H5 cj o) tv ce:=by
    have h6:m / 15 % 6=0\/m / 15 % 6=1\/m / 15 % 6=2\/m / 15 % 6=3\/m / 15 % 6=4\/m / 15 % 6=5:=by omega
    rcases h6 with h|h|h|h|h|h <;> rw[h]
    . exact⟨_,.jk,rfl,λo=>.inl rfl⟩
    . exact⟨_,.jk,rfl,λo=>.inr (.inl rfl)⟩
    . exact⟨_,.jk,rfl,λo=>.inr (.inr ⟨p1,rfl,.inl (by rw[au np1];exact q1)⟩)⟩
    . exact⟨_,.jk,rfl,λo=>.inr (.inr ⟨p2,rfl,.inr (.inl (by rw[au np2];exact q2))⟩)⟩
    . exact⟨_,.jk,rfl,λo=>.inr (.inr ⟨p3,rfl,.inr (.inr (by rw[au np3];exact q3))⟩)⟩
    . rcases hlv with rfl|rfl
      . exact⟨_,.str "7",rfl,λo=>rfl⟩
      . exact⟨_,.int 7,rfl,λo=>rfl⟩
   have aev:dj (cs.map V.ref) ((j:Nat):Int)=some (.ref cj):=by rw[<-hpl];exact pI
   refine⟨_,rfl,_,rfl,_,_,rfl,rfl,⟨by decide,by decide⟩,_,_,rfl,rfl,(by show(0:Int)<6;decide),p4,_,_,tv,rfl,rfl,aq.of q4,htv,_,rfl,_,rfl,sl,_,_,_,rfl,rfl,aq.of (s5 _ _ ig),aev,_,rfl,cj,_,rfl,jH.k (k:=Sum.inr nm) (s5 _ _ jA) (dX (by show 3<=1000;decide)),?_⟩
   have hz:∀o,dZ (upd H5 cj o) rj.2.2 (pJ rj.2.2):=λo=>by
    rcases hpv rj (List.mem_of_getElem? tG) with⟨w,e⟩|⟨w,e⟩ <;> rw[e] <;> rfl
   have fin:∀kvs,putK [((Sum.inr x:Key),V.int rj.1),(Sum.inr y,.int rj.2.1),(Sum.inr z,rj.2.2)] (Sum.inr nm) tv=kvs->(∃g,kj (upd H5 cj (.dK kvs)) x y z cj g)->Q .non (upd H5 cj (.dK (putK [((Sum.inr x:Key),V.int rj.1),(Sum.inr y,.int rj.2.1),(Sum.inr z,rj.2.2)] (Sum.inr nm) tv))):=λkvs e ⟨g',hg'⟩=>by
    rw[e]
    exact q cs _ _ (λc o h1 h2 h3 h=>by rw[au (λz=>h3 (by rw[z];exact nF))];exact s5 _ _ (k2 c o h1 h)) (by rw[au (Ne.symm (pH _ nF))];exact s5 _ _ h2) (by rw[au (λz=>Us (by rw[z];exact nF))];exact s5 _ _ ig) (jR.Um hpv hnd hcj (λc' _ hne o h=>by rw[au hne];exact s5 _ _ h) hg') zH
   rcases Ur with rfl|rfl|rfl
   . exact fin _ (Uc hxy hxz) ⟨some (ce,.int rj.2.1,pJ rj.2.2),_,_,_,aD,hce _,rfl,hz _⟩
   . exact fin _ (Ud hxy hyz) ⟨some (.int rj.1,ce,pJ rj.2.2),_,_,_,aD,rfl,hce _,hz _⟩
   . exact fin _ (ael hxz hyz) ⟨some (.int rj.1,.int rj.2.1,ce),_,_,_,aD,rfl,rfl,hce _⟩
 have f1:G4 p1=some (.lst []):=(r2.trans (r3.trans r4)) _ _ FQ
 have f2:G4 p2=some (.dK []):=(r3.trans r4) _ _ FW
 have f3:G4 p3=some (.tup []):=r4 _ _ FZ
 have np:p1≠p4/\p2≠p4/\p3≠p4:=⟨λz=>(by rw[z] at FQ;rw[(r2.trans r3) _ _ FQ] at h4';cases h4'),λz=>(by rw[z] at FW;rw[r3 _ _ FW] at h4';cases h4'),λz=>(by rw[z] at FZ;rw[FZ] at h4';cases h4')⟩
 have n4:H2 p4=none:=by
  cases e:H2 p4 with
  |none=>rfl
  |some o=>rw[(r1.trans (r2.trans r3)) _ _ e] at h4';cases h4'
 obtain⟨pk,f,rfl,aew⟩:∃pk f,kv=.ref pk/\H2 pk=some (.tup [.str f]):=by
  cases kp with
  |num=>unfold KA at hk2;obtain⟨a,e,h⟩:=hk2;exact⟨a,_,e,h⟩
  |bW=>unfold KA at hk2;obtain⟨a,e,h⟩:=hk2;exact⟨a,_,e,h⟩
  |_=>exact hpk.elim
 refine⟨_,rfl,_,rfl,ro,_,_,_,rfl,rfl,aq.of (t4 _ _ jQ),rfl,rfl,_,rfl,cu (λc1=>?_) (λc1=>bU ?_)⟩
 rotate_left
 . exact hB _ _ ⟨.str "7",by rw[hpl];rfl,.inl rfl,t4,f1,f2,f3,Ga⟩
 refine⟨_,rfl,dF,λp5 h5=>?_⟩
 have s5:=Same.new h5 (o:=.tup [.str "word"])
 refine⟨pk,p5,_,_,_,rfl,rfl,str1 (f:=f) (g:="word") (rest:=[]),.inr ⟨aN.of (s5 _ _ (t4 _ _ aew)),aN.of aD,_,rfl,cu (λc2=>?_) (λc2=>?_)⟩⟩
 . refine⟨_,rfl,p4,_,_,5,rfl,rfl,s5 _ _ Ga,rfl,hB _ _ ⟨.int 7,by rw[hpl];rfl,.inr rfl,?_,?_,?_,?_,aD⟩⟩
   . exact λc o h=>by rw[au (aR h n4)];exact s5 _ _ (t4 _ _ h)
   . rw[au np.1];exact s5 _ _ f1
   . rw[au np.2.1];exact s5 _ _ f2
   . rw[au np.2.2];exact s5 _ _ f3
 . exact hB _ _ ⟨.str "7",by rw[hpl];rfl,.inl rfl,t4.trans s5,s5 _ _ f1,s5 _ _ f2,s5 _ _ f3,s5 _ _ Ga⟩
noncomputable def d8:Kd->Ce->Bool
 | .num,.int _=>true
 | .bW,.str _=>true
 |_,_=>false
noncomputable def Ut:Sp:=λvs H Q _=>∃kv v kp ce,vs=[kv,v]/\KA H kv kp/\fC kp/\dZ H v ce/\∀H',Same H H'->Q (.bl (d8 kp ce)) H'
theorem dZ.ty {K:W.Frag}{H:Hp}{v:V}{ce:Ce}(h:dZ H v ce):∃t bi bb bs,jm K H v t/\W.kitOne K t (.type "int")=some bi/\W.kitOne K t (.type "bool")=some bb/\W.kitOne K t (.type "str")=some bs/\(bi && !bb)=d8 .num ce/\bs=d8 .bW ce:=by
 cases ce with
 |int z=>cases h;exact⟨_,true,false,false,.int z,rfl,rfl,rfl,rfl,rfl⟩
 |str s=>cases h;exact⟨_,false,false,true,.str s,rfl,rfl,rfl,rfl,rfl⟩
 |jk=>
  rcases h with rfl|rfl|⟨a,rfl,h|h|h⟩
  . exact⟨_,false,false,false,.non,rfl,rfl,rfl,rfl,rfl⟩
  . exact⟨_,true,true,false,.bl true,rfl,rfl,rfl,rfl,rfl⟩
  . exact⟨_,false,false,false,.lst h,rfl,rfl,rfl,rfl,rfl⟩
  . exact⟨_,false,false,false,.dK h,rfl,rfl,rfl,rfl,rfl⟩
  . exact⟨_,false,false,false,.tup h,rfl,rfl,rfl,rfl,rfl⟩
theorem dZ.same {H H':Hp}(s:Same H H'){v:V}{c:Ce}(h:dZ H v c):dZ H' v c:=h.keep λa o e _=>s a o e
theorem Uu:b_ ["_law_kind_here","_law_thing"] ["_law_kind_here","_law_thing"] (aM (top 49)):=cI
theorem aex (T:Tb mg)(pL:Dn K mg "_law_fits" ["_law_kind_here","_law_thing"] (top 49) Gb Gd):aH P w K mg base aP (1) Gb Gd ["_law_kind_here","_law_thing"] (Ut):=by
 refine pL.F.ok Uu (λvs H Q E h=>?_) (λcdv A outer s H vs Q E hr h=>?_)
 . obtain⟨kv,v,kp,ce,rfl,_⟩:=h
   rfl
 obtain⟨kv,v,kp,ce,rfl,hk,hpl,hce,q⟩:=h
 have nd:=Uu.nd
 have hu:=eO hr
 refine⟨_,(aB (aV (aU (Di (n:=0) hu) (pv 0) (dR (aj bJ ao)) (aQ _)) (aC (bf (bN gY (by rfl) T.fH boot_isinstance (aj (pv 1) (aj (gB (v:=.ty "str") rfl T.Ea boot_str rfl) ao))))) aZ)
  (aC (bf (oH (bN gY (by rfl) T.fH boot_isinstance (aj (pv 1) (aj (gB (v:=.ty "int") rfl T.vN boot_int rfl) ao))) (oG (Bm (bN gY (by rfl) T.fH boot_isinstance (aj (pv 1) (aj (gB (v:=.ty "bool") rfl T.yU boot_bool rfl) ao))))))))),?_⟩
 refine⟨_,rfl,dF,λp5 h5=>?_⟩
 have s5:=Same.new h5 (o:=.tup [.str "word"])
 obtain⟨t,bi,bb,bs,ht,k1,k2,k3,e1,e2⟩:=(hce.same s5).ty (K:=K)
 cases kp with
 |num=>
  unfold KA at hk
  obtain⟨pk,rfl,hpk⟩:=hk
  refine⟨pk,p5,_,_,_,rfl,rfl,str1 (f:="number") (g:="word") (rest:=[]),.inr ⟨aN.of (s5 _ _ hpk),aN.of aD,_,rfl,?_⟩⟩
  rw[zN]
  refine bU ?_
  refine⟨_,rfl,_,_,_,bi,rfl,ht,k1,bi,rfl,?_⟩
  cases bi with
  |false=>
   refine bU ?_
   have:=q _ s5
   rw[<-e1] at this
   exact this
  |true=>
   refine cZ ?_
   refine⟨_,rfl,_,_,_,bb,rfl,ht,k2,bb,rfl,?_⟩
   have:=q _ s5
   rw[<-e1] at this
   exact this
 |bW=>
  unfold KA at hk
  obtain⟨pk,rfl,hpk⟩:=hk
  refine⟨pk,p5,_,_,_,rfl,rfl,str1 (f:="word") (g:="word") (rest:=[]),.inr ⟨aN.of (s5 _ _ hpk),aN.of aD,_,rfl,?_⟩⟩
  rw[zN]
  refine cZ ?_
  have:=q _ s5
  rw[<-e2] at this
  exact⟨_,rfl,_,_,_,bs,rfl,ht,k3,this⟩
 |_=>exact hpl.elim
theorem Ge {K:PySem.W.Frag}{a:Addr}{xs:List V}{g:TG}{tb:TS}{D:Ends}{σ:St}{H:Hp}(Pv:Nat->St->Hp->Prop)(h0:Pv 0 σ H)(hl:∀i σ H,i<=xs.length->Pv i σ H->aq K H a xs)
 (hs:∀(i:Nat) y σ H p,xs[i]? =some y->Pv i σ H->H p=none->g (.ref p) σ (upd H p (.tup [.int i,y])) λσ2 H2=>tb { D with nx:=Pv (i+1),ct:=Pv (i+1),bk:=D.nx } σ2 H2) (hd:∀σ H,Pv xs.length σ H->D.nx σ H):
 ∃W:Nat->Nat->St->Hp->Prop,(∃m,W 0 m σ H)/\∀i m σ H,W i m σ H->
  ((Ite K a).stop i H/\D.nx σ H)\/((Ite K a).go i H/\∃N:St->Hp->Prop,(∀σ' H',N σ' H'->∃m',m'<m/\W (i+1) m' σ' H')/\∀x H',(Ite K a).mO i H x H'->g x σ H' λσ2 H2=>tb { D with nx:=N,ct:=N,bk:=D.nx } σ2 H2):=by
 refine⟨λi m σ H=>m=xs.length - i/\i<=xs.length/\Pv i σ H,⟨xs.length,by simp,Nat.zero_le _,h0⟩,?_⟩
 rintro i m σ H ⟨rfl,hi,p⟩
 by_cases hlt:i<xs.length
 . refine .inr ⟨⟨xs,xs[i],hl i σ H hi p,by simp[hlt]⟩,Pv (i+1),λσ' H' p'=>⟨xs.length - (i+1),by omega,rfl,hlt,p'⟩,λx H' y=>?_⟩
   obtain⟨q,y,hq,rfl,hy,rfl⟩:=y
   exact hs i y σ H q (hy xs (hl i σ H hi p)) p hq
 . have e:i=xs.length:=by omega
   subst e
   exact .inl ⟨⟨xs,hl _ σ H (Nat.le_refl _) p,Nat.le_refl _⟩,hd σ H p⟩
theorem aey {a b:Int}(h:a<b):cJ [Sum.inl a] [Sum.inl b]=true:=by
 rw[qX,if_neg (λe=>by have:=Sum.inl.inj e;omega)]
 exact decide_eq_true h
theorem Uv {D:Ends}{σ:St}{H:Hp}(h:D.nx σ H):Oq D σ H:=h
noncomputable def eX {α:Type}(f:Nat->Option α):Nat->Nat->Option α
 |0,_=>none
 |m+1,i=>match f i with
  |some a=>some a
  |none=>eX f m (i+1)
theorem Gf {α:Type}{f:Nat->Option α}{n:Nat}:∀{i:Nat},i<=n->(∀j,j<i->f j=none)->eX f n 0=eX f (n - i) i
 |0,_,_=>rfl
 |i+1,hi,h=>by
  rw[Gf (i:=i) (by omega) (λj hj=>h j (by omega)),show n - i=(n - (i+1))+1 by omega]
  show(match f i with|some a=>some a|none=>eX f (n - (i+1)) (i+1))=_
  rw[h i (by omega)]
theorem nG {α:Type}{f:Nat->Option α}{n i:Nat}{a:α}(hi:i<n)(h:∀j,j<i->f j=none)(e:f i=some a):eX f n 0=some a:=by
 rw[Gf (Nat.le_of_lt hi) h,show n - i=(n - (i+1))+1 by omega]
 show(match f i with|some a=>some a|none=>eX f (n - (i+1)) (i+1))=_
 rw[e]
theorem nH {α:Type}{f:Nat->Option α}{n:Nat}(h:∀j,j<n->f j=none):eX f n 0=none:=by
 rw[Gf (Nat.le_refl n) h,Nat.sub_self];rfl
theorem Uw {α:Type}{f:Nat->Option α}:∀{m i:Nat},eX f m i=none->∀j,i<=j->j<i+m->f j=none
 |0,i,_,j,h1,h2=>absurd h2 (by omega)
 |m+1,i,h,j,h1,h2=>by
  have h:(match f i with|some a=>some a|none=>eX f m (i+1))=none:=h
  cases e:f i with
  |some a=>rw[e] at h;cases h
  |none=>
   rw[e] at h
   by_cases z:j=i
   . rw[z];exact e
   . exact Uw (m:=m) (i:=i+1) h j (by omega) (by omega)
theorem Gg {α:Type}{f:Nat->Option α}{n:Nat}(h:eX f n 0=none){j:Nat}(hj:j<n):f j=none:=Uw h j (Nat.zero_le _) (by omega)
theorem Ux {l1 l2 l:List Str}(nd:l.Nodup)(p1:l1.Perm l)(p2:l2.Perm l)(h1:l1.Pairwise sle)(h2:l2.Pairwise sle):l1=l2:=by
 have st:∀{m:List Str},m.Perm l->m.Pairwise sle->m.Pairwise slt:=λ{m} p h=>by
  have n:m.Pairwise (· ≠ ·):=p.nodup_iff.mpr nd
  refine(h.and n).imp λ{a b} ⟨x,y⟩=>?_
  rcases DR x with z|z
  . exact z
  . exact absurd z y
 exact RQ RN (p1.trans p2.symm) (st p1 h1) (st p2 h2)
noncomputable def kdOf (z:Str) (kp:Kd) (nm:Str):Kd:=if nm=z then kp else .num
noncomputable def kE (x y:Str) (c:Ce × Ce × Ce) (nm:Str):Ce:=if nm=x then c.1 else if nm=y then c.2.1 else c.2.2
structure bI where
 x:Str
 y:Str
 z:Str
 kp:Kd
 l:List Str
structure bI.ok (N:bI):Prop where
 xy:N.x≠N.y
 xz:N.x≠N.z
 yz:N.y≠N.z
 p:fC N.kp
 pm:N.l.Perm [N.x,N.y,N.z]
 so:N.l.Pairwise sle
theorem bI.ok.mem {N:bI}(h:N.ok){nm:Str}:nm∈N.l↔nm=N.x\/nm=N.y\/nm=N.z:=by
 rw[h.pm.mem_iff];simp
theorem bI.ok.len {N:bI}(h:N.ok):N.l.length=3:=h.pm.length_eq
theorem bI.ok.nd3 {N:bI}(h:N.ok):[N.x,N.y,N.z].Nodup:=by simp[h.xy,h.xz,h.yz]
noncomputable def iu (N:bI) (c:Ce × Ce × Ce) (j:Nat):Option (List V):=match N.l[j]? with
 |some nm=>if d8 (kdOf N.z N.kp nm) (kE N.x N.y c nm)=true then none else some [.str nm]
 |none=>none
noncomputable def gq (N:bI):GR->Option (List V)
 |none=>some []
 |some c=>eX (iu N c) N.l.length 0
noncomputable def aY (gs:List GR) (i:Nat):Int:=match gs[i]? with
 |some (some (.int n,_,_))=>n
 |_=>0
noncomputable def bA (gs:List GR) (i:Nat):Int:=match gs[i]? with
 |some (some (_,.int n,_))=>n
 |_=>0
noncomputable def dU (N:bI) (gs:List GR) (i:Nat):Option (List V):=match gs[i]? with
 |none=>none
 |some g=>match gq N g with
  |some p=>some (.int i::p)
  |none=>if 0<i/\aY gs i<=aY gs (i - 1) then some [.int i] else none
noncomputable def iw (N:bI) (gs:List GR):Option (List V):=eX (dU N gs) gs.length 0
theorem Gh {N:bI}{c:Ce × Ce × Ce}{nm:Str}(h:eX (iu N c) N.l.length 0=none)(hm:nm∈N.l):d8 (kdOf N.z N.kp nm) (kE N.x N.y c nm)=true:=by
 obtain⟨j,hj,e⟩:=List.getElem_of_mem hm
 have:=Gg h hj
 unfold iu at this
 rw[List.getElem?_eq_getElem hj,e] at this
 have this:(if d8 (kdOf N.z N.kp nm) (kE N.x N.y c nm)=true then none else some [V.str nm])=none:=this
 split at this
 . assumption
 . cases this
theorem Uy {c:Ce}(h:d8 .num c=true):∃n,c=.int n:=by
 cases c with
 |int n=>exact⟨n,rfl⟩
 |str s=>cases h
 |jk=>cases h
theorem Gi {N:bI}(hN:N.ok){g:GR}(h:gq N g=none):∃a b ce,g=some (.int a,.int b,ce)/\d8 N.kp ce=true:=by
 cases g with
 |none=>cases h
 |some c=>
  obtain⟨c0,c1,c2⟩:=c
  have h:eX (iu N (c0,c1,c2)) N.l.length 0=none:=h
  have h0:=Gh h (hN.mem.mpr (.inl rfl))
  have h1:=Gh h (hN.mem.mpr (.inr (.inl rfl)))
  have h2:=Gh h (hN.mem.mpr (.inr (.inr rfl)))
  unfold kdOf kE at h0 h1 h2
  rw[if_neg hN.xz,if_pos rfl] at h0
  rw[if_neg hN.yz,if_neg (Ne.symm hN.xy),if_pos rfl] at h1
  rw[if_pos rfl,if_neg (Ne.symm hN.xz),if_neg (Ne.symm hN.yz)] at h2
  obtain⟨a,e0⟩:=Uy h0
  obtain⟨b,e1⟩:=Uy h1
  have e0:c0=.int a:=e0
  have e1:c1=.int b:=e1
  exact⟨a,b,c2,by rw[e0,e1],h2⟩
theorem zO {N:bI}{gs:List GR}{i:Nat}{g:GR}(h:dU N gs i=none)(e:gs[i]? =some g):gq N g=none/\¬(0<i/\aY gs i<=aY gs (i - 1)):=by
 unfold dU at h
 rw[e] at h
 have h:(match gq N g with|some p=>some (V.int i::p)|none=>if 0<i/\aY gs i<=aY gs (i - 1) then some [V.int i] else none)=none:=h
 cases q:gq N g with
 |some p=>rw[q] at h;cases h
 |none=>
  rw[q] at h
  have h:(if 0<i/\aY gs i<=aY gs (i - 1) then some [V.int i] else none)=none:=h
  refine⟨rfl,λz=>?_⟩
  rw[if_pos z] at h;cases h
theorem zP {N:bI}{gs:List GR}{i:Nat}{g:GR}{p:List V}(e:gs[i]? =some g)(q:gq N g=some p):dU N gs i=some (.int i::p):=by
 unfold dU
 rw[e]
 show(match gq N g with|some p=>some (V.int i::p)|none=>if 0<i/\aY gs i<=aY gs (i - 1) then some [V.int i] else none)=_
 rw[q]
theorem zQ {N:bI}{gs:List GR}{i:Nat}{g:GR}(e:gs[i]? =some g)(q:gq N g=none):dU N gs i=if 0<i/\aY gs i<=aY gs (i - 1) then some [.int i] else none:=by
 unfold dU
 rw[e]
 show(match gq N g with|some p=>some (V.int i::p)|none=>if 0<i/\aY gs i<=aY gs (i - 1) then some [V.int i] else none)=_
 rw[q]
theorem Gj {gs:List GR}{i:Nat}{a:Int}{c1 c2:Ce}(h:gs[i]? =some (some (.int a,c1,c2))):aY gs i=a:=by unfold aY;rw[h]
theorem Uz {gs:List GR}{i:Nat}{b:Int}{c0 c2:Ce}(h:gs[i]? =some (some (c0,.int b,c2))):bA gs i=b:=by unfold bA;rw[h]
noncomputable def pN (H:Hp) (v:V):Option (List V)->Prop
 |none=>v=.non
 |some ws=>∃p,v=.ref p/\H p=some (.lst ws)
theorem kj.same {H H':Hp}(s:Same H H'){x y z:Str}{c:Addr}:∀{g:GR},kj H x y z c g->kj H' x y z c g
 |none,⟨kvs,h,e⟩=>⟨kvs,s _ _ h,e⟩
 |some (c0,c1,c2),⟨v0,v1,v2,h,h0,h1,h2⟩=>⟨v0,v1,v2,s _ _ h,h0.same s,h1.same s,h2.same s⟩
theorem GL.same {H H':Hp}(s:Same H H'){x y z:Str}{cs:List Addr}{gs:List GR}(h:GL H x y z cs gs):GL H' x y z cs gs:=⟨h.1,λi c g hc hg=>(h.2 i c g hc hg).same s⟩
theorem GL.at {H:Hp}{x y z:Str}{cs:List Addr}{gs:List GR}(h:GL H x y z cs gs){i:Nat}{c:Addr}(e:cs[i]? =some c):∃g,gs[i]? =some g/\kj H x y z c g:=by
 obtain⟨hi,_⟩:=List.getElem?_eq_some_iff.mp e
 have hr:gs[i]? =some (gs[i]'(by rw[<-h.1];exact hi)):=List.getElem?_eq_getElem _
 exact⟨_,hr,h.2 i c _ e hr⟩
theorem kj.get {H:Hp}{N:bI}(hN:N.ok){a:Addr}{c:Ce × Ce × Ce}(h:kj H N.x N.y N.z a (some c)):∃kvs,H a=some (.dK kvs)/\kvs.length=3/\∀nm,nm∈N.l->∃v,dH kvs (Sum.inr nm)=some v/\dZ H v (kE N.x N.y c nm):=by
 obtain⟨c0,c1,c2⟩:=c
 obtain⟨v0,v1,v2,h,h0,h1,h2⟩:=h
 refine⟨_,h,rfl,λnm hm=>?_⟩
 unfold kE
 rcases hN.mem.mp hm with rfl|rfl|rfl
 . exact⟨v0,rm,by rw[if_pos rfl];exact h0⟩
 . exact⟨v1,vZ hN.xy,by rw[if_neg (Ne.symm hN.xy),if_pos rfl];exact h1⟩
 . exact⟨v2,by rw[iR (λe=>hN.xz (Sum.inr.inj e)),iR (λe=>hN.yz (Sum.inr.inj e))];exact lN rfl,by rw[if_neg (Ne.symm hN.xz),if_neg (Ne.symm hN.yz)];exact h2⟩
theorem pO {cs:List Addr}{i:Nat}{c:Addr}(h:cs[i]? =some c):(cs.map V.ref)[i]? =some (.ref c):=by rw[List.getElem?_map,h];rfl
theorem tH {cs:List Addr}{i:Nat}{v:V}(h:(cs.map V.ref)[i]? =some v):∃c,cs[i]? =some c/\v=.ref c:=by
 rw[List.getElem?_map] at h
 cases e:cs[i]? with
 |none=>rw[e] at h;cases h
 |some c=>rw[e] at h;exact⟨c,rfl,(Option.some.inj h).symm⟩
structure iV (H:Hp) (N:bI) (sl:Addr) (cs:List Addr) (gs:List GR):Prop where
 ok:N.ok
 at_:H sl=some (.lst (cs.map V.ref))
 gl:GL H N.x N.y N.z cs gs
 pP:cs.length<=41
theorem iV.same {H H':Hp}(s:Same H H'){N:bI}{sl:Addr}{cs:List Addr}{gs:List GR}(h:iV H N sl cs gs):iV H' N sl cs gs:=⟨h.ok,s _ _ h.at_,h.gl.same s,h.pP⟩
theorem iW {cs:List Addr}:(cs.map V.ref).length=cs.length:=List.length_map _
noncomputable def UG:Sp:=λvs H Q _=>∃ro kv sl N cs gs,vs=[.ref ro,kv,.ref sl]/\H ro=some (.lst [.str N.x,.str N.y,.str N.z])/\KA H kv N.kp/\iV H N sl cs gs/\
 ∀v H',Same H H'->pN H' v (iw N gs)->Q v H'
theorem UJ:b_ ["_law_row_of","_law_part","_law_rows_here","_law_kinds","_law_k","_law_row","_law_name"] ["_law_row_of","_law_part","_law_rows_here"] (aM (top 50)):=cI
theorem aeA (T:Tb mg)(pQ:Dn K mg "_law_misfit" ["_law_row_of","_law_part","_law_rows_here"] (top 50) Gk Gm)(pL:Dn K mg "_law_fits" ["_law_kind_here","_law_thing"] (top 49) Gb Gd)(aeB:aH P w K mg base aP (1) Gb Gd ["_law_kind_here","_law_thing"] (Ut)):aH P w K mg base aP (2) Gk Gm ["_law_row_of","_law_part","_law_rows_here"] (UG):=by
 refine pQ.F.ok UJ (λvs H Q E h=>?_) (λcdv A outer s H vs Q E hr h=>?_)
 . obtain⟨ro,kv,sl,N,cs,gs,rfl,_⟩:=h
   rfl
 obtain⟨ro,kv,sl,N,cs,gs,rfl,dz,hk,hR,q⟩:=h
 have nd:=UJ.nd
 have hu:=eO hr
 have hN:=hR.ok
 refine⟨_,(aB (aW (i:=3) nd rfl (Or.inl rfl) (yq (jJ (aJ bh (pv 0) ak (λ_ _=>rfl)) (dR (aj bJ ao)) (jJ (aJ bh (pv 0) ak (λ_ _=>rfl)) (dR (aj bJ ao)) (jJ (aJ bh (pv 0) ak (λ_ _=>rfl)) (pv 1) yp))) rfl rfl (by simp) (by decide)))
  (aB (fY PassesOwn.never rfl (CG rfl T.D_ (aj (pv 2) ao)) (lK rfl (eY (cG (i:=4) nd rfl (Or.inl rfl)) (eY (cG (i:=5) nd rfl (Or.inl rfl)) lJ))) (aB (aV (aU jl (bN Cq (by rfl) T.dY PySem.boot_len (aj (pv 5) ao)) ak (aQ _)) (aC (bf (cL (aj (pv 4) ao)))) aZ)
  (aB (fY PassesOwn.never rfl (jY (bN Qw (by rfl) T.DY boot_sorted (aj (pv 0) ao))) (cG (i:=6) nd rfl (Or.inl rfl)) (aC (aV (ji (gR (bF aeB (hr.mono (by omega)) rfl pL.m pL.F.kp pL.b .nil bC (aj (dD hu (pv 3) (pv 6) (λ_ _=>rfl)) (aj (dD hu (pv 5) (pv 6) (λ_ _=>rfl)) ao))))) (aC (bf (cL (aj (pv 4) (aj (pv 6) ao))))) aZ)))
  (aC (aV (PW.pt (oF (aU rR (pv 4) ak (aQ _)) (oE (aU aaw (dD hu (pv 5) (aJ bh (pv 0) ak (λ_ _=>rfl)) (λ_ _=>rfl)) (dD hu (aJ bh (pv 2) (aL mQ (pv 4) ak) (λ_ _=>rfl)) (aJ bh (pv 0) ak (λ_ _=>rfl)) (λ_ _=>rfl)) (aQ _))))) (aC (bf (cL (aj (pv 4) ao)))) aZ)))))
  (aC (bf iQ)))),?_⟩
 intro pd hpd
 have sd:Same H (upd H pd (.dK [])):=Same.new hpd
 refine⟨_,rfl,ro,_,_,_,rfl,rfl,aq.of (sd _ _ dz),rfl,dF,λn1 hn1=>?_⟩
 obtain⟨H1,UL,s1,e1⟩:=new1 hn1 (.tup [.str "number"])
 rw[UL]
 have t1:=sd.trans s1
 refine⟨_,rfl,ro,_,_,_,rfl,rfl,aq.of (t1 _ _ dz),rfl,dF,λn2 hn2=>?_⟩
 obtain⟨H2,v7,s2,e2⟩:=new1 hn2 (.tup [.str "number"])
 rw[v7]
 have t2:=t1.trans s2
 have tK:H2 pd=some (.dK []):=s2 _ _ (s1 _ _ aD)
 refine⟨_,rfl,ro,_,_,_,rfl,rfl,aq.of (t2 _ _ dz),rfl,_,rfl,tK,[(Sum.inr N.x,.ref n1),(Sum.inr N.y,.ref n2),(Sum.inr N.z,kv)],rfl,by show 3<=15;decide,?_⟩
 rw[zB hN.xy hN.xz hN.yz]
 obtain⟨H3,lY,s3,e3⟩:∃H3,upd H2 pd (.dK [(Sum.inr N.x,.ref n1),(Sum.inr N.y,.ref n2),(Sum.inr N.z,kv)])=H3/\Same H H3/\H3 pd=some (.dK [(Sum.inr N.x,.ref n1),(Sum.inr N.y,.ref n2),(Sum.inr N.z,kv)]):=
  ⟨_,rfl,λa o h=>by rw[au (aR h hpd)];exact t2 a o h,aD⟩
 have k1:KA H3 (.ref n1) .num:=by
  unfold KA
  exact⟨n1,rfl,by rw[<-lY,au (λz=>by rw[z] at e1;rw[s2 _ _ e1] at tK;cases tK)];exact s2 _ _ e1⟩
 have k2:KA H3 (.ref n2) .num:=by
  unfold KA
  exact⟨n2,rfl,by rw[<-lY,au (λz=>by rw[z] at e2;rw[e2] at tK;cases tK)];exact e2⟩
 rw[lY]
 clear UL v7 lY tK e1 e2 s1 s2 t1 t2 sd hpd hn1 hn2
 have jB:cs.length=gs.length:=hR.gl.1
 have aeC:∀nm,nm∈N.l->∃u,KA H3 u (kdOf N.z N.kp nm)/\dH [((Sum.inr N.x:Key),V.ref n1),(Sum.inr N.y,.ref n2),(Sum.inr N.z,kv)] (Sum.inr nm)=some u:=λnm hm=>by
  unfold kdOf
  rcases hN.mem.mp hm with rfl|rfl|rfl
  . exact⟨_,by rw[if_neg hN.xz];exact k1,rm⟩
  . exact⟨_,by rw[if_neg hN.yz];exact k2,vZ hN.xy⟩
  . exact⟨_,by rw[if_pos rfl];exact hk.mono (Tu.of s3) _,by rw[iR (λe=>hN.xz (Sum.inr.inj e)),iR (λe=>hN.yz (Sum.inr.inj e))];exact lN rfl⟩
 have kpl:∀nm,fC (kdOf N.z N.kp nm):=λnm=>by
  unfold kdOf
  split
  . exact hN.p
  . trivial
 refine⟨_,rfl,sl,rfl,⟨_,aq.of (s3 _ _ hR.at_)⟩,Ge (xs:=cs.map V.ref) (λi σ H'=>∃x4 x5 x6,σ=[some (.ref ro),some kv,some (.ref sl),some (.ref pd),x4,x5,x6]/\Same H3 H'/\∀j,j<i->dU N gs j=none) ⟨_,_,_,rfl,Same.refl _,λj hj=>absurd hj (by omega)⟩ ?_ ?_ ?_⟩
 . rintro i σ H' _ ⟨x4,x5,x6,rfl,sm,_⟩
   exact aq.of (sm _ _ (s3 _ _ hR.at_))
 . rintro i yv σ H' t hy ⟨x4,x5,x6,rfl,sm,hno⟩ ht
   obtain⟨c,hc,rfl⟩:=tH hy
   obtain⟨g,hg,hG⟩:=hR.gl.at hc
   have hi:i<gs.length:=(List.getElem?_eq_some_iff.mp hg).1
   have st:Same H' (upd H' t (.tup [.int i,.ref c])):=Same.new ht
   have s4:=(s3.trans sm).trans st
   have sm4:=sm.trans st
   have v8:=s4 _ _ dz
   have Gn:∀(ws:List V) (H5:Hp),Same H H5->ws.length<=2->dU N gs i=some ws->ws.length<=sizeLine/\∀p,H5 p=none->Q (.ref p) (upd H5 p (.lst ws)):=λws H5 s5 hl e=>⟨Nat.le_of_lt (dX (by omega)),λp hp=>q _ _ (s5.trans (Same.new hp)) (by unfold iw;rw[nG hi hno e];exact⟨p,rfl,aD⟩)⟩
   refine⟨t,_,rfl,aN.of aD,rfl,_,_,rfl,_,_,rfl,rfl,?_⟩
   cases g with
   |none=>
    obtain⟨kvs,hkv,hl2⟩:=hG
    refine⟨_,rfl,c,_,rfl,s4 _ _ hkv,rfl,_,rfl,cu (λ_=>?_) (λcc=>?_)⟩
    . exact⟨_,rfl,Gn _ _ s4 (by show 1<=2;decide) (zP hg rfl)⟩
    . exact absurd (by rw[hl2];decide +kernel) cc
   |some ce=>
    obtain⟨kvs,hkv,hl3,hget⟩:=hG.get hN
    refine⟨_,rfl,c,_,rfl,s4 _ _ hkv,rfl,_,rfl,oM (show V.int (kvs.length:Nat)=V.int 3 by rw[hl3];rfl) ?_⟩
    have hlen:=hN.len
    dsimp only[dG]
    refine Uv ?_
    dsimp only
    refine j9 (A:=Bv _ _ _) (λσ' H'=>(∃x6,σ'=[some (.ref ro),some kv,some (.ref sl),some (.ref pd),some (.int i),some (.ref c),x6])/\Same H3 H'/\gq N (some ce)=none) ?_ (λhB=>?_)
    . rintro _ H5 ⟨⟨UW,rfl⟩,s5,hrow⟩
      have v9:=s3.trans s5
      obtain⟨a0,b0,c2,eg,_⟩:=Gi hN hrow
      have fQ:=zQ hg hrow
      have ex:∀{j:Nat} {cj:Addr},cs[j]? =some cj->gq N (gs.getD j none)=none->cC H5 cj (.str N.x) (some (.int (aY gs j))):=λ{j cj} hcj tG=>by
       obtain⟨gj,Gp,U0⟩:=hR.gl.at hcj
       rw[List.getD_eq_getElem?_getD,Gp] at tG
       obtain⟨a,b,c2,e,_⟩:=Gi hN (g:=gj) tG
       rw[e] at U0 Gp
       obtain⟨v0,v1,v2,h,h0,_,_⟩:=U0
       have:=cC.k (k:=Sum.inr N.x) (v9 _ _ h)
       rw[rm,show v0=.int a from h0,<-Gj Gp] at this
       exact this
      have exi:=ex hc (by rw[List.getD_eq_getElem?_getD,hg];exact hrow)
      have next:dU N gs i=none->∀j,j<i+1->dU N gs j=none:=λe j hj=>by
       by_cases z:j=i
       . rw[z];exact e
       . exact hno j (by omega)
      refine⟨_,rfl,_,_,rfl,rfl,_,rfl,cu (λc1=>?_) (λc1=>bU ?_)⟩
      . have hi0:0<i:=by
         have:(0:Int)<(i:Int):=of_decide_eq_true c1
         omega
        have hcp:cs[i - 1]? =some (cs[i - 1]'(by omega)):=List.getElem?_eq_getElem _
        obtain⟨gp,U3,hGp⟩:=hR.gl.at hcp
        have exp:=ex hcp (by rw[List.getD_eq_getElem?_getD,U3];exact(zO (hno (i - 1) (by omega)) U3).1)
        have hix:dj (cs.map V.ref) ((i:Int) - 1)=some (.ref (cs[i - 1]'(by omega))):=by
         rw[show(i:Int) - 1=((i - 1:Nat):Int) by omega];exact iG (pO hcp)
        refine⟨_,rfl,_,rfl,ro,_,_,_,rfl,rfl,aq.of (v9 _ _ dz),rfl,c,_,rfl,exi,_,rfl,_,rfl,_,_,rfl,rfl,sl,_,_,_,rfl,rfl,aq.of (v9 _ _ hR.at_),hix,_,rfl,ro,_,_,_,rfl,rfl,aq.of (v9 _ _ dz),rfl,_,_,rfl,exp,_,_,rfl,rfl,_,rfl,cu (λc2=>?_) (λc2=>?_)⟩
        . have:=of_decide_eq_true c2
          rw[if_pos ⟨hi0,this⟩] at fQ
          exact⟨_,rfl,Gn _ _ v9 (by show 1<=2;decide) fQ⟩
        . have h2:¬aY gs i<=aY gs (i - 1):=λz=>c2 (decide_eq_true z)
          rw[if_neg (λz=>h2 z.2)] at fQ
          exact⟨_,_,_,rfl,s5,next fQ⟩
      . have h2:¬0<i:=λz=>c1 (decide_eq_true (by omega))
        rw[if_neg (λz=>h2 z.1)] at fQ
        exact⟨_,_,_,rfl,s5,next fQ⟩
    refine⟨_,rfl,ro,[N.x,N.y,N.z],rfl,aq.of v8,by show 3<64;decide,λps ss' hps hperm Ei=>?_⟩
    obtain rfl:ss'=N.l:=Ux hN.nd3 hperm hN.pm (DX Ei) hN.so
    have v5:=Same.new hps (o:=.lst (N.l.map V.str))
    have s7:=sm4.trans v5
    have eps:upd (upd H' t (.tup [.int i,.ref c])) ps (.lst (N.l.map V.str)) ps=some (.lst (N.l.map V.str)):=aD
    generalize upd (upd H' t (.tup [.int i,.ref c])) ps (.lst (N.l.map V.str))=H7 at s7 eps
    have Fw:(N.l.map V.str).length=N.l.length:=List.length_map _
    refine⟨ps,rfl,⟨_,aq.of eps⟩,qH (xs:=N.l.map V.str) (λj σ H'=>(∃x6,σ=[some (.ref ro),some kv,some (.ref sl),some (.ref pd),some (.int i),some (.ref c),x6])/\Same H7 H'/\∀j',j'<j->iu N ce j'=none) ⟨⟨_,rfl⟩,Same.refl _,λj hj=>absurd hj (by omega)⟩ ?_ ?_ ?_⟩
    . rintro j σ H8 _ ⟨_,s8,_⟩
      exact aq.of (s8 _ _ eps)
    . rintro j nv σ H8 mj ⟨⟨UW,rfl⟩,s8,hbad⟩
      rw[List.getElem?_map] at mj
      cases hnm:N.l[j]? with
      |none=>rw[hnm] at mj;cases mj
      |some nm=>
       rw[hnm] at mj
       cases mj
       have hmem:nm∈N.l:=List.mem_of_getElem? hnm
       have hjl:j<N.l.length:=(List.getElem?_eq_some_iff.mp hnm).1
       obtain⟨u,hku,hvu⟩:=aeC nm hmem
       obtain⟨v,hvv,hcv⟩:=hget nm hmem
       have Gq:=s7.trans s8
       have Gr:=s3.trans Gq
       have gk:cC H8 pd (.str nm) (some u):=by have:=cC.k (k:=Sum.inr nm) (Gq _ _ e3);rw[hvu] at this;exact this
       have gv:cC H8 c (.str nm) (some v):=by have:=cC.k (k:=Sum.inr nm) (Gr _ _ hkv);rw[hvv] at this;exact this
       refine⟨_,rfl,_,rfl,pd,_,rfl,gk,_,rfl,_,rfl,c,_,rfl,gv,u,v,_,_,rfl,hku.mono (Tu.of Gq) _,kpl nm,hcv.same Gr,λH9 s9=>?_⟩
       have nJ:iu N ce j=if d8 (kdOf N.z N.kp nm) (kE N.x N.y ce nm)=true then none else some [.str nm]:=by unfold iu;rw[hnm]
       refine⟨_,rfl,?_⟩
       cases hfc:d8 (kdOf N.z N.kp nm) (kE N.x N.y ce nm) with
       |false=>
        rw[hfc,if_neg (by decide)] at nJ
        refine cZ ?_
        refine⟨_,rfl,_,rfl,Gn [.int i,.str nm] _ (Gr.trans s9) (by show 2<=2;decide) (zP hg ?_)⟩
        exact nG hjl hbad nJ
       |true=>
        rw[hfc,if_pos rfl] at nJ
        refine bU ⟨⟨_,rfl⟩,s8.trans s9,λj' hj'=>?_⟩
        by_cases z:j'=j
        . rw[z];exact nJ
        . exact hbad j' (by omega)
    . rintro σ H8 ⟨⟨UW,rfl⟩,s8,hbad⟩
      rw[Fw] at hbad
      exact hB _ _ ⟨⟨_,rfl⟩,s7.trans s8,nH hbad⟩
 . rintro σ H' ⟨x4,x5,x6,rfl,sm,hno⟩
   rw[iW,jB] at hno
   exact q _ _ (s3.trans sm) (by unfold iw;rw[nH hno];rfl)
end Pb
namespace L2
open PySem PySem.Spec PyProof.Rows
section
variable {X:Cx}{a b:Expr}{rest:List Expr}{ta tb:TE}{pos:Pos}
noncomputable def U4 (K:W.Frag) (ta tb:TE):TE:=λσ H Q=>ta σ H λx H1=>∃c,O6 K x H1 c/\if c=true then Q x H1 else tb σ H1 Q
theorem aeI (ha:PE X a ta)(hb:PE X (.BoolOp .Or (b::rest) pos) tb):PE X (.BoolOp .Or (a::b::rest) pos) (U4 X.K ta tb):=by
 intro pins s σ H Q I h
 refine BoolOp_or (aO (ha pins s σ H _ I h) λv s1 ⟨x,H1,I1,r1,q1⟩=>?_)
 obtain⟨c,hc,q1⟩:=q1
 refine aO (aaz pins s1 σ H1 x v (λk H2=>k=c/\H2=H1) I1 r1 ⟨c,hc,rfl,rfl⟩) λk s2 ⟨H2,I2,e1,e2⟩=>?_
 subst e1
 subst e2
 cases k with
 |false=>exact hb pins s2 σ H2 Q I2 q1
 |true=>exact⟨x,H2,I2,r1,q1⟩
theorem aeJ {K:W.Frag}(hK:X.K=K)(ha:PE X a ta)(hb:PE X (.BoolOp .Or (b::rest) pos) tb):PE X (.BoolOp .Or (a::b::rest) pos) (U4 K ta tb):=by
 subst hK
 exact aeI ha hb
end
end L2
namespace Pb
open PySem L2
noncomputable def iY (N:bI) (gs:List GR) (i:Nat):Option (List V):=
 if aY gs i≠(i:Int) then some [.int i,.str N.x] else if(i=0/\bA gs i≠0)\/(0<i/\(bA gs i<1\/bA gs (i - 1)+1<bA gs i)) then some [.int i,.str N.y] else none
noncomputable def iJ (N:bI) (gs:List GR):Option (List V):=if gs.length=0 then some [] else eX (iY N gs) gs.length 0
noncomputable def dW (N:bI) (gs:List GR):Option (List V):=match iw N gs with
 |some p=>some p
 |none=>iJ N gs
theorem Gs {N:bI}{gs:List GR}(h:iw N gs=none){i:Nat}{g:GR}(e:gs[i]? =some g):gq N g=none/\¬(0<i/\aY gs i<=aY gs (i - 1)):=zO (Gg h (List.getElem?_eq_some_iff.mp e).1) e
theorem GL.fit {H:Hp}{N:bI}(hN:N.ok){cs:List Addr}{gs:List GR}(h:GL H N.x N.y N.z cs gs){i:Nat}{c:Addr}(hc:cs[i]? =some c)(hm:∀g,gs[i]? =some g->gq N g=none):
 ∃ce v2,gs[i]? =some (some (.int (aY gs i),.int (bA gs i),ce))/\H c=some (.dK [(Sum.inr N.x,.int (aY gs i)),(Sum.inr N.y,.int (bA gs i)),(Sum.inr N.z,v2)])/\dZ H v2 ce/\d8 N.kp ce=true:=by
 obtain⟨g,hg,hG⟩:=h.at hc
 obtain⟨a,b,ce,rfl,hf⟩:=Gi hN (hm g hg)
 obtain⟨v0,v1,v2,hH,h0,h1,h2⟩:=hG
 cases h0
 cases h1
 rw[Gj hg,Uz hg]
 exact⟨ce,v2,hg,hH,h2,hf⟩
theorem zR {H:Hp}{x y z:Str}{c:Addr}{a b v:V}(h:H c=some (.dK [(Sum.inr x,a),(Sum.inr y,b),(Sum.inr z,v)])):cC H c (.str x) (some a):=by
 have:=cC.k (k:=Sum.inr x) h;rw[rm] at this;exact this
theorem zT {H:Hp}{x y z:Str}{c:Addr}{a b v:V}(hxy:x≠y)(h:H c=some (.dK [(Sum.inr x,a),(Sum.inr y,b),(Sum.inr z,v)])):cC H c (.str y) (some b):=by
 have:=cC.k (k:=Sum.inr y) h;rw[vZ hxy] at this;exact this
theorem U5 {H:Hp}{x y z:Str}{c:Addr}{a b v:V}(hxz:x≠z)(hyz:y≠z)(h:H c=some (.dK [(Sum.inr x,a),(Sum.inr y,b),(Sum.inr z,v)])):cC H c (.str z) (some v):=by
 have:=cC.k (k:=Sum.inr z) h
 rw[iR (λe=>hxz (Sum.inr.inj e)),iR (λe=>hyz (Sum.inr.inj e)),lN rfl] at this;exact this
theorem aeK (N:bI)(gs:List GR):iY N gs 0=if aY gs 0≠0 then some [.int 0,.str N.x] else if bA gs 0≠0 then some [.int 0,.str N.y] else none:=by
 unfold iY
 by_cases z1:aY gs 0=0 <;> by_cases z2:bA gs 0=0 <;> simp[z1,z2]
theorem aeL (N:bI)(gs:List GR)(k:Nat):iY N gs (k+1)=if aY gs (k+1)≠(1:Int)+(k:Int) then some [.int ((1:Int)+(k:Int)),.str N.x] else if bA gs (k+1)<1\/bA gs k+1<bA gs (k+1) then some [.int ((1:Int)+(k:Int)),.str N.y] else none:=by
 have ei:(1:Int)+(k:Int)=((k+1:Nat):Int):=by omega
 unfold iY
 rw[ei]
 by_cases z1:aY gs (k+1)=((k+1:Nat):Int)
 . have nz:¬(aY gs (k+1)≠((k+1:Nat):Int)):=λh=>h z1
   rw[if_neg nz,if_neg nz]
   by_cases z2:bA gs (k+1)<1\/bA gs k+1<bA gs (k+1)
   . have z3:(k+1=0/\bA gs (k+1)≠0)\/(0<k+1/\(bA gs (k+1)<1\/bA gs (k+1 - 1)+1<bA gs (k+1))):=.inr ⟨by omega,z2⟩
     rw[if_pos z2,if_pos z3]
   . have z3:¬((k+1=0/\bA gs (k+1)≠0)\/(0<k+1/\(bA gs (k+1)<1\/bA gs (k+1 - 1)+1<bA gs (k+1)))):=λz=>z.elim (λz=>by omega) λz=>z2 z.2
     rw[if_neg z2,if_neg z3]
 . rw[if_pos z1,if_pos z1]
noncomputable def U6:Sp:=λvs H Q _=>∃ro kv sl N cs gs,vs=[.ref ro,kv,.ref sl]/\H ro=some (.lst [.str N.x,.str N.y,.str N.z])/\KA H kv N.kp/\iV H N sl cs gs/\
 ∀v H',Same H H'->pN H' v (dW N gs)->Q v H'
variable {P:Program}{w:World}{K:W.Frag}{mg:Str->Option Value}{base:Heap}
theorem U7:b_ ["_law_row_of","_law_part","_law_rows_here","_law_wrong","_law_k"] ["_law_row_of","_law_part","_law_rows_here"] (aM (top 51)):=cI
theorem aeM (T:Tb mg)(pR:Dn K mg "_law_due" ["_law_row_of","_law_part","_law_rows_here"] (top 51) Gu Gv)(pQ:Dn K mg "_law_misfit" ["_law_row_of","_law_part","_law_rows_here"] (top 50) Gk Gm)(aeN:aH P w K mg base aP (2) Gk Gm ["_law_row_of","_law_part","_law_rows_here"] (UG)):aH P w K mg base aP (3) Gu Gv ["_law_row_of","_law_part","_law_rows_here"] (U6):=by
 refine pR.F.ok U7 (λvs H Q E h=>?_) (λcdv A outer s H vs Q E hr h=>?_)
 . obtain⟨ro,kv,sl,N,cs,gs,rfl,_⟩:=h
   rfl
 obtain⟨ro,kv,sl,N,cs,gs,rfl,dz,hk,hR,q⟩:=h
 have nd:=U7.nd
 have hu:=eO hr
 have hN:=hR.ok
 refine⟨_,(aB (aW (i:=3) nd rfl (Or.inl rfl) (bF aeN (hr.mono (by omega)) rfl pQ.m pQ.F.kp pQ.b .nil bC (aj (pv 0) (aj (pv 1) (aj (pv 2) ao)))))
  (aB (aV (PW.pt (lG (aU rT (pv 3) iQ (aQ _)) (lF (aU bK (bN gG (by rfl) T.dY PySem.boot_len (aj (pv 2) ao)) ak (aQ _))))) (aC (bf (aeJ (K:=K) rfl (pv 3) (oG (cL ao))))) aZ)
  (aB (aV (aU jl (dD hu (aJ bh (pv 2) ak (λ_ _=>rfl)) (aJ bh (pv 0) ak (λ_ _=>rfl)) (λ_ _=>rfl)) ak (aQ _)) (aC (bf (cL (aj ak (aj (aJ bh (pv 0) ak (λ_ _=>rfl)) ao))))) aZ)
  (aB (aV (aU jl (dD hu (aJ bh (pv 2) ak (λ_ _=>rfl)) (aJ bh (pv 0) ak (λ_ _=>rfl)) (λ_ _=>rfl)) ak (aQ _)) (aC (bf (cL (aj ak (aj (aJ bh (pv 0) ak (λ_ _=>rfl)) ao))))) aZ)
  (aB (fY PassesOwn.never rfl (Oz rfl T.vM (aj ak (aj (bN gG (by rfl) T.dY PySem.boot_len (aj (pv 2) ao)) ao))) (cG (i:=4) nd rfl (Or.inl rfl)) (aB (aV (aU jl (dD hu (aJ bh (pv 2) (pv 4) (λ_ _=>rfl)) (aJ bh (pv 0) ak (λ_ _=>rfl)) (λ_ _=>rfl)) (pv 4) (aQ _)) (aC (bf (cL (aj (pv 4) (aj (aJ bh (pv 0) ak (λ_ _=>rfl)) ao))))) aZ)
  (aC (aV (PW.pt (lG (aU O5 (dD hu (aJ bh (pv 2) (pv 4) (λ_ _=>rfl)) (aJ bh (pv 0) ak (λ_ _=>rfl)) (λ_ _=>rfl)) ak (aQ _)) (lF (aU rR (dD hu (aJ bh (pv 2) (pv 4) (λ_ _=>rfl)) (aJ bh (pv 0) ak (λ_ _=>rfl)) (λ_ _=>rfl)) (aL gC (dD hu (aJ bh (pv 2) (aL mQ (pv 4) ak) (λ_ _=>rfl)) (aJ bh (pv 0) ak (λ_ _=>rfl)) (λ_ _=>rfl)) ak) (aQ _))))) (aC (bf (cL (aj (pv 4) (aj (aJ bh (pv 0) ak (λ_ _=>rfl)) ao))))) aZ))))
  (aC (bf iQ))))))),?_⟩
 refine⟨_,rfl,_,rfl,_,rfl,ro,kv,sl,N,cs,gs,rfl,dz,hk,hR,λv H1 s1 hA=>?_⟩
 have ret:∀(ws:List V) (H5:Hp),Same H H5->ws.length<=2->dW N gs=some ws->ws.length<=sizeLine/\∀p,H5 p=none->Q (.ref p) (upd H5 p (.lst ws)):=λws H5 s5 hl e=>⟨Nat.le_of_lt (dX (by omega)),λp hp=>q _ _ (s5.trans (Same.new hp)) (by rw[e];exact⟨p,rfl,aD⟩)⟩
 have jB:cs.length=gs.length:=hR.gl.1
 have Gw:=hR.pP
 cases hm:iw N gs with
 |some p=>
  rw[hm] at hA
  have hd:dW N gs=some p:=by unfold dW;rw[hm]
  obtain⟨a,rfl,ha⟩:=hA
  refine⟨_,rfl,rfl,_,rfl,cZ ?_⟩
  cases p with
  |nil=>
   exact⟨_,rfl,false,.inl ⟨_,aq.of ha,rfl⟩,bU (ret [] _ s1 (Nat.zero_le _) hd)⟩
  |cons u r=>
   exact⟨_,rfl,true,.inl ⟨_,aq.of ha,rfl⟩,cZ (q _ _ s1 (by rw[hd];exact⟨a,rfl,ha⟩))⟩
 |none=>
  rw[hm] at hA
  obtain rfl:v=.non:=hA
  have hd:dW N gs=iJ N gs:=by unfold dW;rw[hm]
  refine⟨_,rfl,rfl,_,rfl,bU ?_⟩
  refine⟨_,rfl,sl,_,rfl,.inl (aq.of (s1 _ _ hR.at_)),rfl,_,rfl,cu (λc=>?_) (λc=>?_)⟩
  . have h0:gs.length=0:=by
     have:=of_decide_eq_true c
     injection this with e
     rw[iW] at e
     omega
    exact⟨_,rfl,false,rfl,bU (ret [] _ s1 (Nat.zero_le _) (by rw[hd];unfold iJ;rw[if_pos h0]))⟩
  have h0:1<=gs.length:=by
   rcases Nat.eq_zero_or_pos gs.length with e|e
   . exact absurd (decide_eq_true (congrArg V.int (by rw[iW,jB,e];rfl))) c
   . exact e
  have hd:dW N gs=eX (iY N gs) gs.length 0:=by rw[hd];unfold iJ;rw[if_neg (by omega)]
  have at_:∀i,i<gs.length->∃c,cs[i]? =some c/\cC H1 c (.str N.x) (some (.int (aY gs i)))/\cC H1 c (.str N.y) (some (.int (bA gs i))):=λi hi=>by
   have hc:cs[i]? =some (cs[i]'(by omega)):=List.getElem?_eq_getElem _
   obtain⟨ce,v2,hg,hH,_,_⟩:=hR.gl.fit hN hc λg hg=>(Gs hm hg).1
   exact⟨_,hc,zR (s1 _ _ hH),zT hN.xy (s1 _ _ hH)⟩
  have kI:=s1 _ _ dz
  have jz:=s1 _ _ hR.at_
  obtain⟨c0,hc0,gx0,gy0⟩:=at_ 0 h0
  have U8:dj (cs.map V.ref) 0=some (.ref c0):=iG (j:=0) (pO hc0)
  have e0:=aeK N gs
  refine⟨_,rfl,sl,_,_,_,rfl,rfl,aq.of jz,U8,_,rfl,ro,_,_,_,rfl,rfl,aq.of kI,rfl,c0,_,rfl,gx0,rfl,_,rfl,cu (λc=>?_) (λc=>?_)⟩
  . have z1:aY gs 0≠0:=λe=>by rw[e] at c;exact absurd c (by decide)
    rw[if_pos z1] at e0
    exact⟨_,rfl,ro,_,_,_,rfl,rfl,aq.of kI,rfl,ret _ _ s1 (by show 2<=2;decide) (by rw[hd,nG (i:=0) h0 (λj hj=>absurd hj (by omega)) e0])⟩
  have z1:aY gs 0=0:=by
   rcases Decidable.em (aY gs 0=0) with e|e
   . exact e
   . exact absurd (by rw[decide_eq_false (λz=>e (by injection z))];rfl) c
  rw[if_neg (by simpa using z1)] at e0
  refine⟨_,rfl,sl,_,_,_,rfl,rfl,aq.of jz,U8,_,rfl,ro,_,_,_,rfl,rfl,aq.of kI,rfl,c0,_,rfl,gy0,rfl,_,rfl,cu (λc=>?_) (λc=>?_)⟩
  . have z2:bA gs 0≠0:=λe=>by rw[e] at c;exact absurd c (by decide)
    rw[if_pos z2] at e0
    exact⟨_,rfl,ro,_,_,_,rfl,rfl,aq.of kI,rfl,ret _ _ s1 (by show 2<=2;decide) (by rw[hd,nG (i:=0) h0 (λj hj=>absurd hj (by omega)) e0])⟩
  have z2:bA gs 0=0:=by
   rcases Decidable.em (bA gs 0=0) with e|e
   . exact e
   . exact absurd (by rw[decide_eq_false (λz=>e (by injection z))];rfl) c
  rw[if_neg (by simpa using z2)] at e0
  refine⟨_,rfl,sl,_,rfl,.inl (aq.of jz),_,_,rfl,⟨by decide,by decide,by omega,by rw[iW];omega⟩,uT (lo:=1) (n:=(((cs.map V.ref).length:Int) - 1).toNat) (λk σ H'=>H'=H1/\(∃x4,σ=[some (.ref ro),some kv,some (.ref sl),some .non,x4])/\∀j,j<k+1->iY N gs j=none) ⟨rfl,⟨_,rfl⟩,λj hj=>by rw[show j=0 by omega];exact e0⟩ ?_ ?_⟩
  . rintro k σ H' hk ⟨rfl,⟨x4,rfl⟩,hno⟩
    rw[iW] at hk
    have hi:k+1<gs.length:=by omega
    obtain⟨ck,hck,gxk,U9⟩:=at_ (k+1) hi
    obtain⟨cp,hcp,gxp,gyp⟩:=at_ k (by omega)
    have ei:(1:Int)+(k:Int)=((k+1:Nat):Int):=by omega
    have Gx:dj (cs.map V.ref) ((1:Int)+(k:Int))=some (.ref ck):=by rw[ei];exact iG (pO hck)
    have FJ:dj (cs.map V.ref) ((1:Int)+(k:Int) - 1)=some (.ref cp):=by rw[show(1:Int)+(k:Int) - 1=((k:Nat):Int) by omega];exact iG (pO hcp)
    have ek:=aeL N gs k
    refine⟨_,rfl,_,rfl,sl,_,_,_,rfl,rfl,aq.of jz,Gx,_,rfl,ro,_,_,_,rfl,rfl,aq.of kI,rfl,ck,_,rfl,gxk,_,rfl,rfl,_,rfl,cu (λc=>?_) (λc=>?_)⟩
    . have z1:aY gs (k+1)≠(1:Int)+(k:Int):=λe=>by rw[e,decide_eq_true rfl] at c;exact absurd c (by decide)
      rw[if_pos z1] at ek
      exact⟨_,rfl,_,rfl,ro,_,_,_,rfl,rfl,aq.of kI,rfl,ret _ _ s1 (by show 2<=2;decide) (by rw[hd,nG hi hno ek])⟩
    have z1:aY gs (k+1)=(1:Int)+(k:Int):=by
     rcases Decidable.em (aY gs (k+1)=(1:Int)+(k:Int)) with e|e
     . exact e
     . exact absurd (by rw[decide_eq_false (λz=>e (by injection z))];rfl) c
    rw[if_neg (by simpa using z1)] at ek
    have bad:(bA gs (k+1)<1\/bA gs k+1<bA gs (k+1))->dW N gs=some [.int ((1:Int)+(k:Int)),.str N.y]:=λz=>by
     rw[if_pos z] at ek
     rw[hd,nG hi hno ek]
    refine⟨_,rfl,_,rfl,sl,_,_,_,rfl,rfl,aq.of jz,Gx,_,rfl,ro,_,_,_,rfl,rfl,aq.of kI,rfl,ck,_,rfl,U9,_,_,rfl,rfl,_,rfl,cu (λc=>?_) (λc=>?_)⟩
    . exact⟨_,rfl,_,rfl,ro,_,_,_,rfl,rfl,aq.of kI,rfl,ret _ _ s1 (by show 2<=2;decide) (bad (.inl (of_decide_eq_true c)))⟩
    have z2:¬bA gs (k+1)<1:=λz=>c (decide_eq_true z)
    refine⟨_,rfl,_,rfl,sl,_,_,_,rfl,rfl,aq.of jz,Gx,_,rfl,ro,_,_,_,rfl,rfl,aq.of kI,rfl,ck,_,rfl,U9,_,rfl,_,rfl,_,_,rfl,rfl,sl,_,_,_,rfl,rfl,aq.of jz,FJ,_,rfl,ro,_,_,_,rfl,rfl,aq.of kI,rfl,cp,_,rfl,gyp,_,_,rfl,rfl,_,_,rfl,rfl,_,rfl,cu (λc=>?_) (λc=>?_)⟩
    . exact⟨_,rfl,_,rfl,ro,_,_,_,rfl,rfl,aq.of kI,rfl,ret _ _ s1 (by show 2<=2;decide) (bad (.inr (of_decide_eq_true c)))⟩
    have z3:¬bA gs k+1<bA gs (k+1):=λz=>c (decide_eq_true z)
    rw[if_neg (λz=>z.elim z2 z3)] at ek
    refine⟨rfl,⟨_,rfl⟩,λj hj=>?_⟩
    by_cases z:j=k+1
    . rw[z];exact ek
    . exact hno j (by omega)
  . rintro σ H' ⟨rfl,⟨x4,rfl⟩,hno⟩
    refine q _ _ s1 ?_
    rw[hd,nH (λj hj=>hno j (by rw[iW];omega))]
    rfl
noncomputable def mq (kd:Str->Kd):List Str->Fs
 |[]=>.nil
 |x::r=>.cons x (kd x) (mq kd r)
theorem Gy (kd:Str->Kd):∀l:List Str,(mq kd l).names=l
 |[]=>rfl
 |x::r=>by show x::(mq kd r).names=_;rw[Gy kd r]
theorem zU {kd:Str->Kd}:∀{l:List Str}{i:Nat}{nm:Str}{k:Kd},(mq kd l).at i=some (nm,k)->l[i]? =some nm/\k=kd nm
 |[],_,_,_,h=>by cases h
 |x::r,0,_,_,h=>by cases h;exact⟨rfl,rfl⟩
 |x::r,i+1,nm,k,h=>zU (l:=r) (i:=i) h
theorem U_ (i:Nat):(List.replicate i true).all id=true:=by
 rw[List.all_eq_true]
 intro z hz
 rw[List.eq_of_mem_replicate hz]
 rfl
theorem aeS {a b:Int}(h:¬a<b):cJ [Sum.inl a] [Sum.inl b]=false:=by
 rw[qX]
 by_cases e:a=b
 . subst e;rw[if_pos rfl];rfl
 . rw[if_neg (λz=>e (Sum.inl.inj z))]
   exact decide_eq_false h
noncomputable def Va:Sp:=λvs H Q _=>∃b a xs kvs fs,vs=[.ref b,.ref a]/\H b=some (.tup xs)/\FA H xs fs/\fs.names.length<=12/\H a=some (.dK kvs)/\((kvs.length≠fs.names.length/\Q (.bl false) H)\/(kvs.length=fs.names.length/\(∀i nm k,fs.at i=some (nm,k)->∃v,dH kvs (Sum.inr nm)=some v)/\∀H',Same H H'->Q (.bl true) H'))
noncomputable def Vb:Sp:=λvs H Q _=>∃kv v k ce,vs=[kv,v]/\KA H kv k/\fC k/\dZ H v ce/\∀u H',Same H H'->pN H' u (if d8 k ce=true then none else some [])->Q u H'
noncomputable def Vc:Sp:=λvs H Q _=>∃b c xs N g,vs=[.ref b,.ref c]/\N.ok/\H b=some (.tup xs)/\FA H xs (mq (kdOf N.z N.kp) N.l)/\kj H N.x N.y N.z c g/\∀u H',Same H H'->pN H' u (gq N g)->Q u H'
theorem wg {α:Type}{f:Nat->Option α}{a:α}:∀{m i:Nat},eX f m i=some a->∃j,f j=some a
 |0,_,h=>by cases h
 |m+1,i,h=>by
  have h:(match f i with|some a=>some a|none=>eX f m (i+1))=some a:=h
  cases e:f i with
  |some b=>rw[e] at h;cases h;exact⟨i,e⟩
  |none=>rw[e] at h;exact wg (m:=m) (i:=i+1) h
theorem aeT {N:bI}{ce:Ce × Ce × Ce}{ws:List V}(h:gq N (some ce)=some ws):ws.length<=1:=by
 obtain⟨j,hj⟩:=wg (f:=iu N ce) h
 unfold iu at hj
 split at hj
 . split at hj
   . cases hj
   . cases hj;exact Nat.le_refl _
 . cases hj
noncomputable def Vd:Sp:=λvs H Q _=>∃p r b x kvs j,vs=[.ref p,.ref r]/\H p=some (.tup [.str "rows",.str x,.str "",.ref b])/\H r=some (.dK kvs)/\dH kvs (Sum.inr x)=some (.int j)/\∀t,H t=none->Q (.ref t) (upd H t (.tup [.int j]))
noncomputable def RK (H:Hp) (N:bI) (pk:Addr):Prop:=∃b xs,H pk=some (.tup [.str "rows",.str N.x,.str "",.ref b])/\H b=some (.tup xs)/\FA H xs (mq (kdOf N.z N.kp) N.l)
noncomputable def zV:Sp:=λvs H Q _=>∃pk sl N cs gs,vs=[.ref pk,.ref sl]/\RK H N pk/\iV H N sl cs gs/\∀u H',Same H H'->pN H' u (iw N gs)->Q u H'
theorem aeU {N:bI}(hN:N.ok)(nm:Str):fC (kdOf N.z N.kp nm):=by
 unfold kdOf
 split
 . exact hN.p
 . trivial
theorem aeV {H:Hp}{x y z:Str}{c:Addr}:∀{g:GR},kj H x y z c g->∃kvs,H c=some (.dK kvs)
 |none,⟨kvs,h,_⟩=>⟨kvs,h⟩
 |some (_,_,_),⟨_,_,_,h,_⟩=>⟨_,h⟩
theorem asc {gs:List GR}{N:bI}{i:Nat}(h:∀j,j<i->dU N gs j=none)(hi:i<=gs.length):∀{k j:Nat},j<k->k<i->aY gs j<aY gs k
 |0,_,hj,_=>absurd hj (by omega)
 |k+1,j,hj,hk=>by
  have hg:gs[k+1]? =some (gs[k+1]'(by omega)):=List.getElem?_eq_getElem _
  have h1:=(zO (h (k+1) hk) hg).2
  have h2:aY gs k<aY gs (k+1):=by
   rcases Int.lt_or_le (aY gs k) (aY gs (k+1)) with z|z
   . exact z
   . exact absurd ⟨by omega,z⟩ h1
  by_cases e:j=k
  . rw[e];exact h2
  . exact Int.lt_trans (asc h hi (k:=k) (j:=j) (by omega) (by omega)) h2
theorem Ve:b_ ["fields","record"] ["fields","record"] (aM (top 16)):=cI
theorem aeW (T:Tb mg)(pU:Dn K mg "has_just" ["fields","record"] (top 16) Gz GC):aH P w K mg base aP (1) Gz GC ["fields","record"] (Va):=by
 refine pU.F.ok Ve (λvs H Q E h=>?_) (λcdv A outer s H vs Q E hr h=>?_)
 . obtain⟨b,a,xs,kvs,fs,rfl,_⟩:=h
   rfl
 obtain⟨b,a,xs,kvs,fs,rfl,hb,hfa,hx,ha,hw⟩:=h
 have nd:=Ve.nd
 have hu:=eO hr
 refine⟨_,(aC (bf (oH (qJ bK (bN Cq (by rfl) T.dY PySem.boot_len (aj (pv 1) ao)) (bN gG (by rfl) T.dY PySem.boot_len (aj (pv 0) ao)) (aQ _)) (oG (bN (Qx rfl) (by rfl) T.RZ boot_all (aj (rY (g:=(Bs K 2 (uN (dG 0) (uN (dG 1) Br)))) (tt:=lR) (te:=_) (own:=["name","inner"]) rfl (fZ.of (N:=["fields","record"]) (sc:=aM (top 16)) rfl rfl rfl (by decide +kernel)) (uQ (pv 0)) (λ_ _ _ _ _=>(lK rfl (eY (cG (i:=0) (show(["name","inner","fields","record"]:List Str).Nodup by decide +kernel) rfl (Or.inl rfl) (.inr rfl)) (eY (cG (i:=1) (show(["name","inner","fields","record"]:List Str).Nodup by decide +kernel) rfl (Or.inl rfl) (.inr rfl)) lJ)))) (λ_ _ _ _ _=>qR) (λ_ _ _ _ _=>(Z4 (Qe hu (pv 0) (pv 3)) (by with_unfolding_all rfl)))) ao)))))),?_⟩
 have hx':xs.length<=12:=by rw[FA.len fs hfa];exact hx
 refine⟨_,rfl,a,_,rfl,ha,_,rfl,b,_,rfl,.inr (aN.of hb),rfl,_,rfl,?_⟩
 rcases hw with⟨hne,q⟩|⟨hkl,hget,q⟩
 . rw[decide_eq_false (show ¬V.int (kvs.length:Nat)=V.int (xs.length:Nat) from λz=>hne (by injection z with e;rw[<-FA.len fs hfa];exact Int.ofNat.inj e))]
   exact bU q
 have e1:kvs.length=xs.length:=by rw[hkl,FA.len fs hfa]
 rw[decide_eq_true (show V.int (kvs.length:Nat)=V.int (xs.length:Nat) by rw[e1])]
 refine cZ ?_
 refine⟨_,rfl,b,rfl,⟨_,aN.of hb⟩,λi m ys H'=>H'=H/\m=xs.length - i/\i<=xs.length/\ys=(List.replicate i true).map V.bl,⟨xs.length,rfl,by simp,Nat.zero_le _,rfl⟩,?_⟩
 rintro i m ys H' ⟨rfl,rfl,hi,rfl⟩
 by_cases hlt:i<xs.length
 . refine .inr ⟨⟨xs,xs[i],aN.of hb,by simp[hlt]⟩,by rw[List.length_map,List.length_replicate];exact dX (by omega),λx H' y=>?_⟩
   obtain⟨rfl,y⟩:=y
   have hv:=y xs (aN.of hb)
   obtain⟨c,u,nm,k,rfl,hat,hc,hk⟩:=FA.get fs hfa hv
   obtain⟨v,hval⟩:=hget i nm k hat
   refine⟨c,_,rfl,aN.of hc,rfl,_,_,rfl,_,_,rfl,rfl,rfl,yes (cZ ?_)⟩
   refine⟨_,rfl,_,rfl,a,_,rfl,cC.k (k:=Sum.inr nm) ha,?_⟩
   rw[hval]
   refine⟨xs.length - (i+1),by omega,rfl,rfl,hlt,?_⟩
   rw[List.replicate_succ',List.map_append]
   rfl
 . refine .inl ⟨⟨xs,aN.of hb,Nat.le_of_not_lt hlt⟩,λp hp=>⟨p,List.replicate i true,rfl,aq.of aD,?_⟩⟩
   rw[U_]
   exact q _ (Same.new hp)
theorem zW:b_ ["kind","value","form"] ["kind","value"] (aM (top 14)):=cI
theorem aeX (T:Tb mg)(iK:Dn K mg "misfit" ["kind","value"] (top 14) rz rA):aH P w K mg base aP (1) rz rA ["kind","value"] (Vb):=by
 refine iK.F.ok zW (λvs H Q E h=>?_) (λcdv A outer s H vs Q E hr h=>?_)
 . obtain⟨kv,v,k,ce,rfl,_⟩:=h
   rfl
 obtain⟨kv,v,k,ce,rfl,hk,hP,hv,q⟩:=h
 have nd:=zW.nd
 refine⟨_,(aB (aW (i:=2) nd rfl (Or.inl rfl) (aJ bV (pv 0) ak (λ_ _=>rfl)))
  (aB (aV (aU bK (pv 2) bJ (aQ _)) (aC (bf (Bo (PW.pt (oF (gR (bN gY (by rfl) T.fH boot_isinstance (aj (pv 1) (aj (gB (v:=.ty "int") rfl T.vN boot_int rfl) ao)))) (oE (ji (gR (bN gY (by rfl) T.fH boot_isinstance (aj (pv 1) (aj (gB (v:=.ty "bool") rfl T.yU boot_bool rfl) ao)))))))) iQ (cL ao)))) aZ)
  (aB (aV (aU bK (pv 2) bJ (aQ _)) (aC (bf (Bo (gR (bN gY (by rfl) T.fH boot_isinstance (aj (pv 1) (aj (gB (v:=.ty "str") rfl T.Ea boot_str rfl) ao)))) iQ (cL ao)))) aZ)
  (aB (aV (aU bK (pv 2) bJ (aQ _)) (aC bZ) aZ)
  (aB (aV (aU bK (pv 2) bJ (aQ _)) (aC bZ) aZ)
  (aB (aV (aU bK (pv 2) bJ (aQ _)) (aC bZ) aZ)
  (aC bZ))))))),?_⟩
 obtain⟨t,bi,bb,bs,ht,k1,k2,k3,e1,e2⟩:=hv.ty (K:=K)
 have zX:d8 k ce=true->Q .non H:=λz=>q _ _ (Same.refl _) (by rw[if_pos z];rfl)
 have no':d8 k ce=false->∀p,H p=none->Q (.ref p) (upd H p (.lst [])):=λz p hp=>q _ _ (Same.new hp) (by rw[z,if_neg (by decide)];exact⟨p,rfl,aD⟩)
 cases k with
 |num=>
  unfold KA at hk
  obtain⟨a,rfl,ha⟩:=hk
  refine⟨_,rfl,a,_,_,_,rfl,rfl,aN.of ha,rfl,?_⟩
  refine CJ rfl (by decide +kernel) ?_
  refine⟨_,rfl,_,_,_,bi,rfl,ht,k1,bi,rfl,?_⟩
  rw[<-e1] at zX no'
  cases bi with
  |false=>exact bU ⟨Nat.zero_le _,no' rfl⟩
  |true=>
   refine cZ ?_
   refine⟨_,rfl,_,_,_,bb,rfl,ht,k2,bb,rfl,?_⟩
   cases bb with
   |false=>exact cZ (zX rfl)
   |true=>exact bU ⟨Nat.zero_le _,no' rfl⟩
 |bW=>
  unfold KA at hk
  obtain⟨a,rfl,ha⟩:=hk
  refine⟨_,rfl,a,_,_,_,rfl,rfl,aN.of ha,rfl,?_⟩
  refine yt rfl (by decide +kernel) ?_
  refine CJ rfl (by decide +kernel) ?_
  refine⟨_,rfl,_,_,_,bs,rfl,ht,k3,bs,rfl,?_⟩
  rw[<-e2] at zX no'
  cases bs with
  |false=>exact bU ⟨Nat.zero_le _,no' rfl⟩
  |true=>exact cZ (zX rfl)
 |_=>exact hP.elim
theorem Vf:b_ ["fields","record","name","inner","place"] ["fields","record"] (aM (top 15)):=cI
theorem aeY (T:Tb mg)(pW:Dn K mg "record_misfit" ["fields","record"] (top 15) GD GF)(pU:Dn K mg "has_just" ["fields","record"] (top 16) Gz GC)(aeZ:aH P w K mg base aP (1) Gz GC ["fields","record"] (Va))(iK:Dn K mg "misfit" ["kind","value"] (top 14) rz rA)(GJ:aH P w K mg base aP (1) rz rA ["kind","value"] (Vb)):aH P w K mg base aP (2) GD GF ["fields","record"] (Vc):=by
 refine pW.F.ok Vf (λvs H Q E h=>?_) (λcdv A outer s H vs Q E hr h=>?_)
 . obtain⟨b,a,xs,N,g,rfl,_⟩:=h
   rfl
 obtain⟨b,a,xs,N,g,rfl,hN,hb,hfa,hG,q⟩:=h
 have nd:=Vf.nd
 have hu:=eO hr
 have hlen:=hN.len
 refine⟨_,(aB (aV (PW.pt (lG (ji (gR (bN gY (by rfl) T.fH boot_isinstance (aj (pv 1) (aj (gB (v:=.ty "dict") rfl T.sU boot_dict rfl) ao))))) (lF (ji (gR (bF aeZ (hr.mono (by omega)) rfl pU.m pU.F.kp pU.b .nil bC (aj (pv 0) (aj (pv 1) ao)))))))) (aC (bf (cL ao))) aZ)
  (aB (fY PassesOwn.never rfl (uQ (pv 0)) (lK rfl (eY (cG (i:=2) nd rfl (Or.inl rfl)) (eY (cG (i:=3) nd rfl (Or.inl rfl)) lJ))) (aB (aW (i:=4) nd rfl (Or.inl rfl) (bF GJ (hr.mono (by omega)) rfl iK.m iK.F.kp iK.b .nil bC (aj (pv 3) (aj (dD hu (pv 1) (pv 2) (λ_ _=>rfl)) ao))))
  (aC (aV (aU rT (pv 4) iQ (aQ _)) (aC (bf (aL Ci (cL (aj (pv 2) ao)) (pv 4)))) aZ))))
  (aC (bf iQ)))),?_⟩
 have hnl:(mq (kdOf N.z N.kp) N.l).names.length=3:=by rw[Gy];exact hlen
 cases g with
 |none=>
  obtain⟨kvs,ha,hk2⟩:=hG
  refine⟨_,rfl,_,_,_,true,rfl,.dK ha,rfl,true,rfl,bU ?_⟩
  refine⟨_,rfl,_,rfl,b,a,xs,kvs,_,rfl,hb,hfa,by omega,ha,.inl ⟨by omega,⟨false,rfl,cZ ?_⟩⟩⟩
  exact⟨Nat.zero_le _,λp hp=>q _ _ (Same.new hp) ⟨p,rfl,aD⟩⟩
 |some ce=>
  obtain⟨kvs,ha,hk3,hget⟩:=hG.get hN
  refine⟨_,rfl,_,_,_,true,rfl,.dK ha,rfl,true,rfl,bU ?_⟩
  refine⟨_,rfl,_,rfl,b,a,xs,kvs,_,rfl,hb,hfa,by omega,ha,.inr ⟨by omega,λi nm k hat=>?_,λH1 s1=>⟨true,rfl,bU ?_⟩⟩⟩
  . obtain⟨v,hv,_⟩:=hget nm (List.mem_of_getElem? (zU hat).1)
    exact⟨v,hv⟩
  refine⟨_,rfl,b,rfl,⟨_,aN.of (s1 _ _ hb)⟩,xQ (xs:=xs) (λi σ H'=>Same H H'/\(∃x y z,σ=[some (.ref b),some (.ref a),x,y,z])/\∀j,j<i->iu N ce j=none) ⟨s1,⟨_,_,_,rfl⟩,λj hj=>absurd hj (by omega)⟩ ?_ ?_ ?_⟩
  . rintro i σ H' _ ⟨s2,_⟩
    exact aN.of (s2 _ _ hb)
  . rintro i v σ H' hv ⟨s2,⟨x,y,z,rfl⟩,hbad⟩
    obtain⟨c,u,nm,k,rfl,hat,hc,hk⟩:=FA.get _ hfa hv
    obtain⟨hnm,rfl⟩:=zU hat
    obtain⟨e,hval,hce⟩:=hget nm (List.mem_of_getElem? hnm)
    have hil:i<N.l.length:=(List.getElem?_eq_some_iff.mp hnm).1
    refine⟨c,_,rfl,aN.of (s2 _ _ hc),rfl,_,_,rfl,_,_,rfl,rfl,?_⟩
    refine⟨_,rfl,_,rfl,_,rfl,a,e,rfl,(by have:=cC.k (k:=Sum.inr nm) (s2 _ _ ha);rw[hval] at this;exact this),u,e,_,_,rfl,KA.mono (Tu.of s2) _ hk,aeU hN nm,hce.same s2,λpv H3 s3 hA=>?_⟩
    have nJ:iu N ce i=if d8 (kdOf N.z N.kp nm) (kE N.x N.y ce nm)=true then none else some [.str nm]:=by unfold iu;rw[hnm]
    have pX:=s2.trans s3
    cases hfc:d8 (kdOf N.z N.kp nm) (kE N.x N.y ce nm) with
    |true=>
     rw[hfc,if_pos rfl] at nJ hA
     obtain rfl:pv=.non:=hA
     refine⟨_,rfl,rfl,_,rfl,?_⟩
     rw[decide_eq_true rfl]
     refine bU ⟨pX,⟨_,_,_,rfl⟩,λj hj=>?_⟩
     by_cases e:j=i
     . rw[e];exact nJ
     . exact hbad j (by omega)
    |false=>
     rw[hfc,if_neg (by decide)] at nJ hA
     obtain⟨p0,rfl,hp0⟩:=hA
     refine⟨_,rfl,rfl,_,rfl,cZ ?_⟩
     refine⟨_,rfl,dF,λp1 hp1=>⟨_,rfl,p1,p0,_,_,rfl,rfl,aD,Same.new hp1 _ _ hp0,dF,λp2 hp2=>?_⟩⟩
     exact q _ _ (pX.trans ((Same.new hp1).trans (Same.new hp2))) (by
      show pN _ _ (eX (iu N ce) N.l.length 0)
      rw[nG hil hbad nJ]
      exact⟨p2,rfl,aD⟩)
  . rintro σ H' ⟨s2,_,hbad⟩
    refine q _ _ s2 ?_
    show pN _ _ (eX (iu N ce) N.l.length 0)
    rw[nH λj hj=>hbad j (by rw[FA.len _ hfa,hnl];omega)]
    rfl
theorem Vg:b_ ["kind","row","key","by"] ["kind","row"] (aM (top 21)):=cI
theorem ae0 (T:Tb mg)(kJ:Dn K mg "rank" ["kind","row"] (top 21) GK GP):aH P w K mg base aP (1) GK GP ["kind","row"] (Vd):=by
 refine kJ.F.ok Vg (λvs H Q E h=>?_) (λcdv A outer s H vs Q E hr h=>?_)
 . obtain⟨p,r,b,x,kvs,j,rfl,_⟩:=h
   rfl
 obtain⟨p,r,b,x,kvs,j,rfl,hp,hR,hv,q⟩:=h
 have nd:=Vg.nd
 have hu:=eO hr
 refine⟨_,(aB (aW (i:=2) nd rfl (Or.inl rfl) (aJ bV (pv 0) ak (λ_ _=>rfl)))
  (aB (aW (i:=3) nd rfl (Or.inl rfl) (aJ bV (pv 0) ak (λ_ _=>rfl)))
  (aB (aV (aU bK (pv 3) bJ (aQ _)) (aC (bf (dR (aj (dD hu (pv 1) (pv 2) (λ_ _=>rfl)) ao)))) aZ)
  (aC (bf (dR (aj (dD hu (pv 1) (pv 3) (λ_ _=>rfl)) (aj (dD hu (pv 1) (pv 2) (λ_ _=>rfl)) ao)))))))),?_⟩
 have gk:cC H r (.str x) (some (.int j)):=by have:=cC.k (k:=Sum.inr x) hR;rw[hv] at this;exact this
 refine⟨_,rfl,p,_,_,_,rfl,rfl,aN.of hp,rfl,?_⟩
 refine⟨_,rfl,p,_,_,_,rfl,rfl,aN.of hp,rfl,?_⟩
 refine⟨_,rfl,rfl,_,rfl,cu (λc=>?_) (λc=>absurd (decide_eq_true rfl) c)⟩
 exact⟨_,rfl,_,rfl,r,_,rfl,gk,dF,λt ht=>q t ht⟩
theorem Vh:b_ ["kind","rows","earlier","number","row","place"] ["kind","rows"] (aM (top 17)):=cI
theorem ae1 (T:Tb mg)(pY:Dn K mg "rows_misfit" ["kind","rows"] (top 17) GQ GX)(pW:Dn K mg "record_misfit" ["fields","record"] (top 15) GD GF)(ae2:aH P w K mg base aP (2) GD GF ["fields","record"] (Vc))(kJ:Dn K mg "rank" ["kind","row"] (top 21) GK GP)(Vi:aH P w K mg base aP (1) GK GP ["kind","row"] (Vd)):aH P w K mg base aP (3) GQ GX ["kind","rows"] (zV):=by
 refine pY.F.ok Vh (λvs H Q E h=>?_) (λcdv A outer s H vs Q E hr h=>?_)
 . obtain⟨pk,a,N,cs,gs,rfl,_⟩:=h
   rfl
 obtain⟨pk,a,N,cs,gs,rfl,⟨b,xs,hpk,hb,hfa⟩,hR,q⟩:=h
 have nd:=Vh.nd
 have hu:=eO hr
 have hu0:=hr.aaL
 have hN:=hR.ok
 have ha:=hR.at_
 refine⟨_,(aB (aV (ji (gR (bN gY (by rfl) T.fH boot_isinstance (aj (pv 1) (aj (gB (v:=.ty "list") rfl T.yV boot_list rfl) ao))))) (aC (bf (cL ao))) aZ)
  (aB (aW (i:=2) nd rfl (Or.inl rfl) Cm)
  (aB (fY PassesOwn.never rfl (CG rfl T.D_ (aj (pv 1) ao)) (lK rfl (eY (cG (i:=3) nd rfl (Or.inl rfl)) (eY (cG (i:=4) nd rfl (Or.inl rfl)) lJ))) (aB (aW (i:=5) nd rfl (Or.inl rfl) (bF ae2 (hr.mono (by omega)) rfl pW.m pW.F.kp pW.b .nil bC (aj (aJ bV (pv 0) ak (λ_ _=>rfl)) (aj (pv 4) ao))))
  (aB (aV (aU rT (pv 5) iQ (aQ _)) (aC (bf (aL Ci (cL (aj (pv 3) ao)) (pv 5)))) aZ)
  (aB (aV (PW.pt (oF (aU rR (pv 3) ak (aQ _)) (oE (aU (acI hu0) (bF Vi (hr.mono (by omega)) rfl kJ.m kJ.F.kp kJ.b .nil bC (aj (pv 0) (aj (pv 4) ao))) (bF Vi (hr.mono (by omega)) rfl kJ.m kJ.F.kp kJ.b .nil bC (aj (pv 0) (aj (aJ bh (pv 1) (aL mQ (pv 3) ak) (λ_ _=>rfl)) ao))) (aQ _))))) (aC (bf (cL (aj (pv 3) ao)))) aZ)
  (aB (aV (Oo (Qe hu (dD hu (pv 4) (aJ bV (pv 0) ak (λ_ _=>rfl)) (λ_ _=>rfl)) (pv 2)) (by with_unfolding_all rfl)) (aC (bf (cL (aj (pv 3) ao)))) aZ)
  (aC (oK hu (pv 2) (dD hu (pv 4) (aJ bV (pv 0) ak (λ_ _=>rfl)) (λ_ _=>rfl)) iM rfl)))))))
  (aC (bf iQ))))),?_⟩
 have jB:cs.length=gs.length:=hR.gl.1
 have Gw:=hR.pP
 refine⟨_,rfl,_,_,_,true,rfl,.lst ha,rfl,true,rfl,bU ?_⟩
 intro p hp
 have s0:Same H (upd H p (.dK [])):=Same.new hp
 refine⟨_,rfl,a,rfl,⟨_,aq.of (s0 _ _ ha)⟩,Ge (xs:=cs.map V.ref) (λi σ H'=>∃x1 x2 x3 ek,σ=[some (.ref pk),some (.ref a),some (.ref p),x1,x2,x3]/\Same H H'/\H' p=some (.dK ek)/\ek.map (·.1)=((List.range i).map λj:Nat=>(Sum.inl (aY gs j):Key))/\∀j,j<i->dU N gs j=none) ⟨_,_,_,[],rfl,s0,aD,rfl,λj hj=>absurd hj (by omega)⟩ ?_ ?_ ?_⟩
 . rintro i σ H' _ ⟨x1,x2,x3,ek,rfl,s2,_⟩
   exact aq.of (s2 _ _ ha)
 . rintro i yv σ H' t hy ⟨x1,x2,x3,ek,rfl,s2,hp',hek,hno⟩ ht
   obtain⟨c,hc,rfl⟩:=tH hy
   obtain⟨g,hg,hG⟩:=hR.gl.at hc
   have hi:i<gs.length:=(List.getElem?_eq_some_iff.mp hg).1
   have st:Same H' (upd H' t (.tup [.int i,.ref c])):=Same.new ht
   have s3:=s2.trans st
   have hpt:upd H' t (.tup [.int i,.ref c]) p=some (.dK ek):=st _ _ hp'
   have Vj:∀(ws:List V) (H5:Hp) (p5:Addr),Same H H5->dU N gs i=some ws->H5 p5=some (.lst ws)->Q (.ref p5) H5:=λws H5 p5 s5 e h5=>q _ _ s5 (by unfold iw;rw[nG hi hno e];exact⟨p5,rfl,h5⟩)
   refine⟨t,_,rfl,aN.of aD,rfl,_,_,rfl,_,_,rfl,rfl,?_⟩
   refine⟨_,rfl,pk,_,_,_,rfl,rfl,aN.of (s3 _ _ hpk),rfl,_,rfl,b,c,xs,N,g,rfl,hN,s3 _ _ hb,FA.mono (Tu.of s3) _ hfa,hG.same s3,λpv H4 s4 hA=>?_⟩
   have pZ:=s3.trans s4
   cases hmr:gq N g with
   |some ws=>
    rw[hmr] at hA
    obtain⟨p0,rfl,hp0⟩:=hA
    have hwl:ws.length<=1:=by
     cases g with
     |none=>cases hmr;exact Nat.zero_le _
     |some ce=>exact aeT hmr
    refine⟨_,rfl,rfl,_,rfl,cZ ?_⟩
    refine⟨_,rfl,dF,λp1 hp1=>⟨_,rfl,p1,p0,_,_,rfl,rfl,aD,Same.new hp1 _ _ hp0,Nat.le_of_lt (dX (by show 1+ws.length<=1000;omega)),λp2 hp2=>?_⟩⟩
    exact Vj (.int i::ws) _ _ (pZ.trans ((Same.new hp1).trans (Same.new hp2))) (zP hg hmr) aD
   |none=>
    rw[hmr] at hA
    obtain rfl:pv=.non:=hA
    refine⟨_,rfl,rfl,_,rfl,?_⟩
    rw[decide_eq_true rfl]
    refine bU ?_
    have fQ:=zQ hg hmr
    have kx:∀{j:Nat} {cj:Addr},j<=i->cs[j]? =some cj->∃v1 v2,H cj=some (.dK [(Sum.inr N.x,.int (aY gs j)),(Sum.inr N.y,v1),(Sum.inr N.z,v2)]):=λ{j cj} hj hcj=>by
     obtain⟨ce,v2,_,h,_⟩:=hR.gl.fit hN hcj λg' hg'=>by
      by_cases e:j=i
      . subst e;rw[hg] at hg';cases hg';exact hmr
      . exact(zO (hno j (by omega)) hg').1
     exact⟨_,_,h⟩
    obtain⟨v1,v2,hrr⟩:=kx (Nat.le_refl _) hc
    have gk:∀H4,Same H H4->cC H4 c (.str N.x) (some (.int (aY gs i))):=λH4 s4=>zR (s4 _ _ hrr)
    have Vk:ek.length<sizeLine:=by
     have e1:=congrArg List.length hek
     rw[List.length_map,List.length_map,List.length_range] at e1
     exact dX (by omega)
    have nxt:dU N gs i=none->∀j,j<i+1->dU N gs j=none:=λe j hj=>by
     by_cases z:j=i
     . rw[z];exact e
     . exact hno j (by omega)
    have mj:dU N gs i=none->dH ek (Sum.inl (aY gs i))=none:=λe=>by
     cases e':dH ek (Sum.inl (aY gs i)) with
     |none=>rfl
     |some v=>
      have:=Qk e'
      rw[hek] at this
      obtain⟨j,hj,e2⟩:=List.mem_map.mp this
      have e3:=Sum.inl.inj e2
      have hj:=List.mem_range.mp hj
      have:=asc (nxt e) (by omega) (j:=j) (k:=i) hj (by omega)
      omega
    have fin:dU N gs i=none->∀H5,Same (upd H' t (.tup [.int i,.ref c])) H5->∀(DD:Ends),DD.nx=(λσ H'=>∃x1 x2 x3 ek,σ=[some (.ref pk),some (.ref a),some (.ref p),x1,x2,x3]/\Same H H'/\H' p=some (.dK ek)/\ek.map (·.1)=((List.range (i+1)).map λj:Nat=>(Sum.inl (aY gs j):Key))/\∀j,j<i+1->dU N gs j=none)->∀z':Option V,
     DD.nx [some (.ref pk),some (.ref a),some (.ref p),some (.int i),some (.ref c),z'] (upd H5 p (.dK (ek++[(Sum.inl (aY gs i),.bl true)]))):=λe H5 s5 DD hDD z'=>by
     rw[hDD]
     refine⟨_,_,_,_,rfl,λc o e=>?_,aD,?_,nxt e⟩
     . rw[au (aR e hp)];exact s5 _ _ (s3 _ _ e)
     . rw[List.map_append,hek,List.range_succ,List.map_append];rfl
    refine⟨_,rfl,_,_,rfl,rfl,_,rfl,cu (λc0=>?_) (λc0=>bU ?_)⟩
    . have hi0:0<i:=by
       have:(0:Int)<(i:Int):=of_decide_eq_true c0
       omega
      have hcp:cs[i - 1]? =some (cs[i - 1]'(by omega)):=List.getElem?_eq_getElem _
      obtain⟨u1,u2,Fz⟩:=kx (by omega) hcp
      generalize cs[i - 1]'(by omega)=rp at hcp Fz
      refine⟨_,rfl,_,rfl,pk,c,b,N.x,_,aY gs i,rfl,pZ _ _ hpk,pZ _ _ hrr,rm,λt1 ht1=>?_⟩
      have st1:Same H4 (upd H4 t1 (.tup [.int (aY gs i)])):=Same.new ht1
      have s5:=pZ.trans st1
      have hix:dj (cs.map V.ref) ((i:Int) - 1)=some (.ref rp):=by
       rw[show(i:Int) - 1=((i - 1:Nat):Int) by omega];exact iG (pO hcp)
      refine⟨_,rfl,_,rfl,_,rfl,_,_,rfl,rfl,a,_,_,_,rfl,rfl,aq.of (s5 _ _ ha),hix,pk,rp,b,N.x,_,aY gs (i - 1),rfl,s5 _ _ hpk,s5 _ _ Fz,rm,λt2 nM=>?_⟩
      have st2:Same (upd H4 t1 (.tup [.int (aY gs i)])) (upd (upd H4 t1 (.tup [.int (aY gs i)])) t2 (.tup [.int (aY gs (i - 1))])):=Same.new nM
      have s6:=s5.trans st2
      refine⟨t1,t2,[Sum.inl (aY gs i)],[Sum.inl (aY gs (i - 1))],rfl,rfl,aN.of (st2 _ _ aD),aN.of aD,rfl,_,rfl,?_⟩
      by_cases hlt:aY gs (i - 1)<aY gs i
      . rw[aey hlt]
        refine bU ?_
        have fQ:dU N gs i=none:=by rw[fQ,if_neg (λz=>by omega)]
        have Vl:=st2 _ _ (st1 _ _ (s4 _ _ hpt))
        refine⟨_,rfl,_,rfl,pk,_,_,_,rfl,rfl,aN.of (s6 _ _ hpk),rfl,c,_,rfl,gk _ s6,_,rfl,p,_,rfl,cC.k (k:=Sum.inl (aY gs i)) Vl,_,rfl,?_⟩
        rw[mj fQ]
        refine bU ?_
        refine⟨_,rfl,_,rfl,_,rfl,pk,_,_,_,rfl,rfl,aN.of (s6 _ _ hpk),rfl,c,_,rfl,gk _ s6,p,_,rfl,jH.k (k:=Sum.inl (aY gs i)) Vl Vk,?_⟩
        rw[sS (mj fQ)]
        exact fin fQ _ (s4.trans (st1.trans st2)) _ rfl _
      . rw[aeS hlt]
        refine cZ ?_
        have fQ:dU N gs i=some [.int i]:=by rw[fQ,if_pos ⟨hi0,by omega⟩]
        exact⟨_,rfl,dF,λp5 j_=>Vj _ _ _ (s6.trans (Same.new j_)) fQ aD⟩
    . have hi0:¬0<i:=λz=>c0 (decide_eq_true (by omega))
      have fQ:dU N gs i=none:=by rw[fQ,if_neg (λz=>hi0 z.1)]
      have Vm:=s4 _ _ hpt
      refine⟨_,rfl,_,rfl,pk,_,_,_,rfl,rfl,aN.of (pZ _ _ hpk),rfl,c,_,rfl,gk _ pZ,_,rfl,p,_,rfl,cC.k (k:=Sum.inl (aY gs i)) Vm,_,rfl,?_⟩
      rw[mj fQ]
      refine bU ?_
      refine⟨_,rfl,_,rfl,_,rfl,pk,_,_,_,rfl,rfl,aN.of (pZ _ _ hpk),rfl,c,_,rfl,gk _ pZ,p,_,rfl,jH.k (k:=Sum.inl (aY gs i)) Vm Vk,?_⟩
      rw[sS (mj fQ)]
      exact fin fQ _ s4 _ rfl _
 . rintro σ H' ⟨x1,x2,x3,ek,rfl,s2,_,_,hno⟩
   rw[iW,jB] at hno
   exact q _ _ s2 (by unfold iw;rw[nH hno];rfl)
theorem ae4 (T:Tb mg)(iK:Dn K mg "misfit" ["kind","value"] (top 14) rz rA)(pY:Dn K mg "rows_misfit" ["kind","rows"] (top 17) GQ GX)(ae5:aH P w K mg base aP (3) GQ GX ["kind","rows"] (zV)):aH P w K mg base aP (4) rz rA ["kind","value"] (zV):=by
 refine iK.F.ok zW (λvs H Q E h=>?_) (λcdv A outer s H vs Q E hr h=>?_)
 . obtain⟨pk,a,N,cs,gs,rfl,_⟩:=h
   rfl
 obtain⟨pk,a,N,cs,gs,rfl,⟨b,xs,hpk,h1⟩,h⟩:=h
 have nd:=zW.nd
 refine⟨_,(aB (aW (i:=2) nd rfl (Or.inl rfl) (aJ bV (pv 0) ak (λ_ _=>rfl)))
  (aB (aV (aU bK (pv 2) bJ (aQ _)) (aC bZ) aZ)
  (aB (aV (aU bK (pv 2) bJ (aQ _)) (aC bZ) aZ)
  (aB (aV (aU bK (pv 2) bJ (aQ _)) (aC bZ) aZ)
  (aB (aV (aU bK (pv 2) bJ (aQ _)) (aC (bf (bF ae5 (hr.mono (by omega)) rfl pY.m pY.F.kp pY.b .nil bC (aj (pv 0) (aj (pv 1) ao))))) aZ)
  (aB (aV (aU bK (pv 2) bJ (aQ _)) (aC bZ) aZ)
  (aC bZ))))))),?_⟩
 refine⟨_,rfl,pk,_,_,_,rfl,rfl,aN.of hpk,rfl,?_⟩
 refine yt rfl (by decide +kernel) ?_
 refine yt rfl (by decide +kernel) ?_
 refine yt rfl (by decide +kernel) ?_
 refine CJ rfl (by decide +kernel) ?_
 exact⟨_,rfl,_,rfl,pk,a,N,cs,gs,rfl,⟨b,xs,hpk,h1⟩,h⟩
theorem Vn:∀(m:Nat) (a b:List (Nat × D)),cW m (a++b)=cW (cW m a) b
 |_,[],_=>rfl
 |_,q::r,b=>Vn (q.1+1) r b
theorem Vo {l:List (Nat × D)}(h:l≠[])(m n:Nat):cW m l=cW n l:=by
 cases l with
 |nil=>exact absurd rfl h
 |cons q r=>rfl
theorem Vp {P:D->Prop}{d:D}(h:dM P d)(e:Nat):flat e d≠[]:=by
 cases h with
 |mk _ _=>rw[g_];exact λz=>by cases z
mutual
theorem Vq {P:D->Prop}{v:D}(hv:P v):∀{d:D},dM P d->∀{b e:Nat},b+1<=e->e<=cW 0 (flat b d)->∃d',dM P d'/\flat b d'=flat b d++[(e,v)]
 |_,.mk (t:=t) (as:=as) h l,b,e,h1,h2=>by
  rw[g_] at h2
  obtain⟨as',l',e'⟩:=Vr hv l (B:=b+1) h1 h2
  exact⟨_,.mk h l',by rw[g_,g_,e'];rfl⟩
theorem Vr {P:D->Prop}{v:D}(hv:P v):∀{as:Ds},cU P as->∀{B e:Nat},B<=e->e<=cW B (cA B as)->∃as',cU P as'/\cA B as'=cA B as++[(e,v)]
 |_,.nil,B,e,h1,h2=>by
  rw[gK] at h2
  have e1:e=B:=Nat.le_antisymm h2 h1
  subst e1
  exact⟨_,.cons (.mk hv .nil) .nil,by rw[dN,g_,gK,gK];rfl⟩
 |_,.cons (d:=d) (r:=.nil) hd _,B,e,h1,h2=>by
  rw[dN,gK,List.append_nil,Vo (Vp hd B) B 0] at h2
  by_cases z:e=B
  . subst z
    exact⟨_,.cons hd (.cons (.mk hv .nil) .nil),by rw[dN,dN,dN,g_,gK,gK];simp⟩
  . obtain⟨d',hd',e'⟩:=Vq hv hd (b:=B) (e:=e) (by omega) h2
    exact⟨_,.cons hd' .nil,by rw[dN,dN,e',gK,List.append_nil,List.append_nil]⟩
 |_,.cons (d:=d) (r:=.cons x d2 r2) hd l,B,e,h1,h2=>by
  have hne:cA B (.cons x d2 r2)≠[]:=by
   cases l with
   |cons h2 l2=>
    rw[dN]
    exact λz=>Vp h2 B (List.append_eq_nil_iff.mp z).1
  rw[dN,Vn,Vo hne _ B] at h2
  obtain⟨as',l',e'⟩:=Vr hv l (B:=B) h1 h2
  exact⟨_,.cons hd l',by rw[dN,dN,e',List.append_assoc]⟩
end
theorem Vs:∀{m:Nat}{r:List (Nat × D)}{i:Nat}{q:Nat × D},fM m r->r[i]? =some q->1<=q.1/\q.1<=cW m (r.take i)
 |_,[],_,_,_,h=>by simp at h
 |m,a::r,0,q,⟨h1,h2,_⟩,h=>by
  have h:some a=some q:=h
  cases h
  exact⟨h1,h2⟩
 |m,a::r,i+1,q,⟨_,_,h3⟩,h=>Vs (m:=a.1+1) (r:=r) (i:=i) h3 h
theorem Vt {P:D->Prop}{t:D}(ht:P t){r:List (Nat × D)}(hc:fM 1 r)(hp:∀q∈r,P q.2):∀i,i<=r.length->∃d,dM P d/\flat 0 d=(0,t)::r.take i
 |0,_=>⟨_,.mk ht .nil,by rw[g_,gK];rfl⟩
 |i+1,hi=>by
  obtain⟨d,hd,e⟩:=Vt ht hc hp i (by omega)
  have hg:r[i]? =some (r[i]'(by omega)):=List.getElem?_eq_getElem _
  obtain⟨h1,h2⟩:=Vs hc hg
  obtain⟨d',hd',e'⟩:=Vq (hp _ (List.mem_of_getElem? hg)) hd (b:=0) h1 (by rw[e];exact h2)
  exact⟨d',hd',by rw[e',e,List.take_succ,hg];rfl⟩
theorem Vu:∀{m:Nat}{r:List (Nat × D)},(∀(i:Nat) q,r[i]? =some q->1<=q.1/\q.1<=cW m (r.take i))->fM m r
 |_,[],_=>trivial
 |m,a::r,h=>by
  obtain⟨h1,h2⟩:=h 0 a rfl
  exact⟨h1,h2,Vu λi q hq=>h (i+1) q hq⟩
theorem ae6 {m:Nat}{r:List (Nat × D)}{i:Nat}{q:Nat × D}(h:r[i]? =some q):cW m (r.take (i+1))=q.1+1:=by
 rw[List.take_succ,h]
 exact Fe q m _
noncomputable def dC:Ce->D
 | .int z=>.int z
 | .str s=>.str s
 | .jk=>.int 0
noncomputable def gQ:GR->Nat × D
 |some (_,.int b,ce)=>(b.toNat,dC ce)
 |_=>(0,.int 0)
theorem GZ {H:Hp}{k:Kd}{v:V}{ce:Ce}(h:dZ H v ce)(hf:d8 k ce=true):Own H v (dC ce) []/\gM k (dC ce):=by
 cases ce with
 |int z=>
  cases h
  cases k with
  |num=>exact⟨by unfold dC Own;exact⟨rfl,rfl⟩,by unfold dC fG;exact⟨_,rfl⟩,by simp only[dC,D.dep];omega,by unfold dC D.Sm;trivial⟩
  |_=>cases hf
 |str s=>
  cases h
  cases k with
  |bW=>exact⟨by unfold dC Own;exact⟨rfl,rfl⟩,by unfold dC fG;exact⟨_,rfl⟩,by simp only[dC,D.dep];omega,by unfold dC D.Sm;trivial⟩
  |_=>cases hf
 |jk=>cases k <;> cases hf
theorem ae7 {H:Hp}{N:bI}{sl:Addr}{cs:List Addr}{gs:List GR}(hm:iw N gs=none)(hd:iJ N gs=none)(hR:iV H N sl cs gs):
 ∃d,dM (gM N.kp) d/\fO [] N.x N.y N.z H (cs.map V.ref) (flat 0 d)/\(flat 0 d).length=gs.length:=by
 have hN:=hR.ok
 unfold iJ at hd
 split at hd
 . cases hd
 rename_i hne
 have jB:cs.length=gs.length:=hR.gl.1
 have row:∀i,i<gs.length->∃c ce v2,cs[i]? =some c/\gs[i]? =some (some (.int (aY gs i),.int (bA gs i),ce))/\H c=some (.dK [(Sum.inr N.x,.int (aY gs i)),(Sum.inr N.y,.int (bA gs i)),(Sum.inr N.z,v2)])/\dZ H v2 ce/\d8 N.kp ce=true:=λi hi=>by
  have hc:cs[i]? =some (cs[i]'(by omega)):=List.getElem?_eq_getElem _
  obtain⟨ce,v2,h1,h2,h3,h4⟩:=hR.gl.fit hN hc λg hg=>(Gs hm hg).1
  exact⟨_,ce,v2,hc,h1,h2,h3,h4⟩
 have due:∀i,i<gs.length->aY gs i=(i:Int)/\(i=0->bA gs i=0)/\(0<i->1<=bA gs i/\bA gs i<=bA gs (i - 1)+1):=λi hi=>by
  have:=Gg hd hi
  unfold iY at this
  split at this
  . cases this
  rename_i h1
  split at this
  . cases this
  rename_i h2
  exact⟨by omega,λz=>by omega,λz=>by omega⟩
 have hq:∀i,i<gs.length->∃ce v2,d8 N.kp ce=true/\dZ H v2 ce/\(gs.map gQ)[i]? =some ((bA gs i).toNat,dC ce)/\o8 [] N.x N.y N.z H i (.ref (cs.getD i 0)) ((bA gs i).toNat,dC ce):=λi hi=>by
  obtain⟨c,ce,v2,hc,hg,hH,hv,hf⟩:=row i hi
  obtain⟨e1,e2,e3⟩:=due i hi
  have hp:((bA gs i).toNat:Int)=bA gs i:=by
   by_cases z:i=0
   . have:=e2 z;omega
   . have:=e3 (by omega);omega
  refine⟨ce,v2,hf,hv,by rw[List.getElem?_map,hg];rfl,c,v2,[],by rw[List.getD_eq_getElem?_getD,hc];rfl,?_,(GZ hv hf).1,λa h=>h⟩
  show H c=some (.dK [(Sum.inr N.x,.int (i:Int)),(Sum.inr N.y,.int (((bA gs i).toNat:Nat):Int)),(Sum.inr N.z,v2)])
  rw[hp,<-e1];exact hH
 obtain⟨ce0,v0,hf0,hv0,h0,_⟩:=hq 0 (by omega)
 rw[(due 0 (by omega)).2.1 rfl] at h0
 obtain⟨q0,r,eqs⟩:∃q0 r,gs.map gQ=q0::r:=by
  cases e:gs.map gQ with
  |nil=>rw[e] at h0;simp at h0
  |cons q0 r=>exact⟨q0,r,rfl⟩
 rw[eqs] at h0
 have h0:some q0=some (0,dC ce0):=h0
 cases h0
 have hrl:r.length+1=gs.length:=by
  have:=congrArg List.length eqs
  rw[List.length_map,List.length_cons] at this
  exact this.symm
 have rq:∀i q,r[i]? =some q->∃ce v2,d8 N.kp ce=true/\dZ H v2 ce/\q=((bA gs (i+1)).toNat,dC ce):=λi q h=>by
  have hi:=(List.getElem?_eq_some_iff.mp h).1
  obtain⟨ce,v2,hf,hv,e,_⟩:=hq (i+1) (by omega)
  rw[eqs] at e
  have e:r[i]? =some ((bA gs (i+1)).toNat,dC ce):=e
  rw[h] at e
  cases e
  exact⟨ce,v2,hf,hv,rfl⟩
 have hch:fM 1 r:=Vu λi q h=>by
  have hi:=(List.getElem?_eq_some_iff.mp h).1
  obtain⟨ce,v2,_,_,rfl⟩:=rq i q h
  obtain⟨_,_,e3⟩:=due (i+1) (by omega)
  have e3:=e3 (by omega)
  refine⟨by show 1<=(bA gs (i+1)).toNat;omega,?_⟩
  show(bA gs (i+1)).toNat<=_
  cases i with
  |zero=>
   have:=(due 0 (by omega)).2.1 rfl
   show _<=1
   simp only[Nat.add_sub_cancel] at e3
   omega
  |succ j=>
   have hj:r[j]? =some (r[j]'(by omega)):=List.getElem?_eq_getElem _
   obtain⟨ce',v2',_,_,eq⟩:=rq j _ hj
   rw[ae6 hj,eq]
   show _<=(bA gs (j+1)).toNat+1
   simp only[Nat.add_sub_cancel] at e3
   omega
 obtain⟨d,hd',ed⟩:=Vt (P:=gM N.kp) (GZ hv0 hf0).2 hch (λq hq=>by
  obtain⟨i,hi,rfl⟩:=List.getElem_of_mem hq
  obtain⟨ce,v2,hf,hv,e⟩:=rq i _ (List.getElem?_eq_getElem hi)
  rw[e];exact(GZ hv hf).2) r.length (Nat.le_refl _)
 rw[List.take_length,<-eqs] at ed
 refine⟨d,hd',⟨?_,λi w q hw hq'=>?_⟩,by rw[ed,List.length_map]⟩
 . rw[ed,iW,List.length_map];exact jB
 . obtain⟨c,hc,rfl⟩:=tH hw
   have hi:i<gs.length:=by rw[<-jB];exact(List.getElem?_eq_some_iff.mp hc).1
   obtain⟨ce,v2,_,_,e,hrw⟩:=hq i hi
   rw[ed,e] at hq'
   cases hq'
   rw[List.getD_eq_getElem?_getD,hc] at hrw
   exact hrw
end Pb
namespace L2
open PySem PySem.Spec PyProof.Rows
noncomputable def p7 (h:Heap) (C fI:Addr) (iZ:List Value) (nid:String):Prop:=
 ∃tl N nm q bs hdct sn sub ab col dd k0 k1 k2 k3 k5 mN oI,h.get? C=some (excClassObj nm q C N bs tl hdct sn sub ab col dd k0 k1 k2 k3 k5 nid)/\h.Ns N mN/\mN "__init__"=some (.ref fI)/\OwnTail h iZ tl/\h.get? fI=some oI/\oI.cls=.type "function"
theorem p7.keeps {h h':Heap}{C fI:Addr}{iZ:List Value}{nid:String}(x:p7 h C fI iZ nid)(k:∀b o,h.get? b=some o->h'.get? b=some o):p7 h' C fI iZ nid:=by
 obtain⟨tl,N,nm,q,bs,hdct,sn,sub,ab,col,dd,k0,k1,k2,k3,k5,mN,oI,h1,h2,h3,h4,h5,h6⟩:=x
 exact⟨tl,N,nm,q,bs,hdct,sn,sub,ab,col,dd,k0,k1,k2,k3,k5,mN,oI,k _ _ h1,h2.keeps k,h3,h4.keeps k,k _ _ h5,h6⟩
section
variable {prog:Program}{w:World}{A:Around}{E:Value->Shared->Prop}{hp:Heap}{g:Array GenState}{dr:Drawn}{tk:Nat}{os:OsState}{C fI:Addr}{iZ:List Value}{B nid zY:String}
theorem ae_ (FB:ExcBaseFacts B nid zY iZ){us:List Value}{Q:Fin->Shared->Prop}(x:p7 hp C fI iZ nid)
 (q1:∀h' e,Heap.MadeExcOf hp h' e (.ref C) us->wpAny (model prog w) A (call (.ref fI) (.ref e::us)) (λr s'=>r=.none/\Q (.done (.ret (.ref e))) s') E ⟨h',g,dr,tk,os⟩) (hl:us.length<=sizeLine):
 wpAny (model prog w) A (Builtin.«type.__call__» ⟨.ref C::us,[]⟩) Q E ⟨hp,g,dr,tk,os⟩:=by
 obtain⟨tl,N,nm,q,bs,hdct,sn,sub,ab,col,dd,k0,k1,k2,k3,k5,mN,oI,cl,ns,ini,tail,Vv,fty⟩:=x
 repeat (first|with_reducible refine wpAny_loadPart_at cl ?_|with_reducible refine wpAny_madeBy_exc cl ?_|wp_step)
 refine codeAny_call_builtin_code (Code.quiet_builtin _ FB.quiet) (wpAny_check_new_subT FB tail cl (codeAny_exc_new_subT FB tail cl ?_ hl))
 show wpAny _ _ _ _ _ _
 generalize Fl:({ cls:=.type "tuple",data:=.seq us.toArray }:Obj)=o1
 generalize vV:({ cls:=.ref C,data:=.fields #[.ref hp.objs.size,.none,.none,.none,.bool false,.none] }:Obj)=o2
 have up:∀b o,hp.get? b=some o->((hp.push o1).push o2).get? b=some o:=λb o e=>Heap.get?_push_of_some _ (Heap.get?_push_of_some _ e)
 have Vw:=up _ _ cl
 have ns':((hp.push o1).push o2).Ns N mN:=ns.keeps up
 have afa:=up _ _ Vv
 have tail':=tail.keeps up
 have ex:((hp.push o1).push o2).get? (hp.objs.size+1)=some o2:=by
  subst vV
  exact Heap.get?_push_at (by rw[Heap.size_push]) rfl
 have ecl:o2.cls=.ref C:=by rw[<-vV]
 have inC:(Value.ref C::tl).contains (.ref C)=true:=by simp
 unfold isInstance
 repeat (first|(with_reducible refine wpAny_loadPart_at ex ?_;rw[ecl])|(with_reducible refine wpAny_isSubtype_exc Vw ?_;rw[inC])|wp_step)
 show wpAny _ _ (typeLookup (.ref C) _) _ _ _
 refine wpAny_typeLookup_tail Vw ns' tail' FB.mroIs FB.init.lookup ?_
 rw[ini]
 refine wpAny_holding (wpAny_bind ?_)
 unfold bindSpecial
 refine wpAny_bind (wpAny_typeOf (T:="function") ⟨_,afa,fty⟩ ?_)
 rw[if_pos (by decide)]
 refine wpAny_pure (wpAny_bind (wpAny_mono (q1 _ (hp.objs.size+1) ⟨up,Heap.get?_none_of_le (Nat.le_succ _),hp.objs.size,?_,Heap.get?_none_of_le (Nat.le_refl _),?_⟩) (λr s' hr=>?_) λ_ _ z=>z))
 . rw[ex,<-vV]
 . rw[<-Fl]
   exact Heap.get?_push_of_some _ (Heap.get?_push_at rfl rfl)
 . obtain⟨rfl,hQ⟩:=hr
   wp_walk
   exact hQ
theorem afc (FB:ExcBaseFacts B nid zY iZ){us:List Value}{Q:Value->Shared->Prop}(x:p7 hp C fI iZ nid)
 (q1:∀h' e,Heap.MadeExcOf hp h' e (.ref C) us->wpAny (model prog w) (A.under (.builtin "type.__call__" ⟨.ref C::us,[]⟩)) (call (.ref fI) (.ref e::us)) (λr s'=>r=.none/\Q (.ref e) s') E ⟨h',g,dr,tk,os⟩) (hl:us.length<=sizeLine):
 wpAny (model prog w) A (call (.ref C) us) Q E ⟨hp,g,dr,tk,os⟩:=by
 have tl1:=tc_lookup
 have tl2:=tc_bind (.ref C)
 have x':=x
 obtain⟨tl,N,nm,q,bs,hdct,sn,sub,ab,col,dd,k0,k1,k2,k3,k5,mN,oI,cl,ns,ini,tail,Vv,fty⟩:=x'
 have ty:(⟨hp,g,dr,tk,os⟩:Shared).TypeIs (.ref C) "type":=⟨_,cl,rfl⟩
 refine wpAny_call (codeAny_of_tree ?_)
 show wpAny _ _ (callAny (.ref C) _) _ _ _
 repeat (any_goals (first|assumption|with_reducible refine wpAny_loadPart_at cl ?_|wp_step))
 exact⟨rfl,codeAny_call_builtin_at (Code.quiet_builtin _ (by decide +kernel)) entry_typeCall (wpAny_check_type_call_sub cl (ae_ FB x (λh' e hm=>q1 h' e hm) hl))⟩
end
theorem afd {M:Model}{A:Around}{E:Value->Shared->Prop}{env:Env}{s:Shared}{x:Sem Value}{Q:Flow->Shared->Prop}(hh:A.handled=none)
 (h:wpAny M A x (λv s1=>∃(e C:Addr) (oe:Obj) (t:Value) (r:Array Value),v=.ref e/\s1.heap.get? e=some oe/\oe.cls=.ref C/\oe.data=.fields #[t,.none,.none,.none,.bool false,.none]/\
   (∃tl N nm q bs hdct sn sub ab col dd k0 k1 k2 k3 k5 nid,s1.heap.get? C=some (excClassObj nm q C N bs tl hdct sn sub ab col dd k0 k1 k2 k3 k5 nid)/\tl.contains (.type "BaseException")=true)/\E (.ref e) s1) E s):
 wpAny M A (raiseStmt env (some x) none) Q E s:=by
 unfold raiseStmt
 refine wpAny_bind (wpAny_mono h (λv s1 h1=>?_) λ_ _ z=>z)
 obtain⟨e,C,oe,t,r,rfl,he,hc,hd,⟨tl,N,nm,q,bs,hdct,sn,sub,ab,col,dd,k0,k1,k2,k3,k5,nid,cl,hb⟩,hE⟩:=h1
 have inB:(Value.ref C::tl).contains (.type "BaseException")=true:=by rw[List.contains_cons,hb,Bool.or_true]
 obtain⟨hp,g,dr,tk,os⟩:=s1
 obtain⟨oc,od,oda,osl⟩:=oe
 have hc:oc=.ref C:=hc
 have hd:oda=.fields #[t,.none,.none,.none,.bool false,.none]:=hd
 subst hc
 subst hd
 repeat (first|with_reducible refine wpAny_loadPart_at he ?_|with_reducible refine wpAny_loadPart_at cl ?_|(with_reducible refine wpAny_isSubtype_exc cl ?_;rw[inB])|wp_step)
 exact wpAny_raiseNew_none hh hE
end L2
namespace L2
open PySem PySem.Spec PySem.Calls PyProof.Rows PySem.W PySem.Builtin PySem.Builtin.ObjectAttr
noncomputable def zZ:List Value->Bool
 | .ref _::r=>zZ r
 |l=>l == [.type "ValueError",.type "Exception",.type "BaseException",.type "object"]
theorem Vx {self:Value}:∀{l:List Value},zZ l=true->refuseLoop self "__setattr__" l=pure ()
 |[],h=>by cases h
 | .ref C::r,h=>by
   rw[refuseLoop_ref]
   exact Vx (l:=r) h
 | .type n::r,h=>by
   have e:Value.type n::r=[.type "ValueError",.type "Exception",.type "BaseException",.type "object"]:=beq_iff_eq.mp h
   rw[e]
   exact F.store_ValueError.passes self
 | .none::r,h=>by cases beq_iff_eq.mp (show(Value.none::r == _)=true from h)
 | .bool b::r,h=>by cases beq_iff_eq.mp (show(Value.bool b::r == _)=true from h)
 | .int i t::r,h=>by cases beq_iff_eq.mp (show(Value.int i t::r == _)=true from h)
 | .str x t::r,h=>by cases beq_iff_eq.mp (show(Value.str x t::r == _)=true from h)
 | .bytes x t::r,h=>by cases beq_iff_eq.mp (show(Value.bytes x t::r == _)=true from h)
 | .float x t::r,h=>by cases beq_iff_eq.mp (show(Value.float x t::r == _)=true from h)
 | .builtin x::r,h=>by cases beq_iff_eq.mp (show(Value.builtin x::r == _)=true from h)
 | .ellipsis::r,h=>by cases beq_iff_eq.mp (show(Value.ellipsis::r == _)=true from h)
 | .notImplemented::r,h=>by cases beq_iff_eq.mp (show(Value.notImplemented::r == _)=true from h)
structure p8 (K:Frag) (C:Addr) (name:Str):Prop where
 sa:findIn K (.ref C) "__setattr__"=some (some (.builtin "object.__setattr__"))
 na:findIn K (.ref C) name=some none
 ob:mroIn K C (.type "object")=some true
 row:((clsIn K C).any λcd=>zZ cd.mro && cd.hasDict)=true
section
variable {prog:Program}{w:World}{A:Around}{E:Value->Shared->Prop}{s:Shared}{K:Frag}{x C:Addr}{ox:Obj}{name:Str}{v:Value}
theorem afe {R:Result->Shared->Prop}{tk:Tok}(X:K.In s.heap)(Z:p8 K C name)(hx:s.heap.get? x=some ox)(hc:ox.cls=.ref C)
 (h:wpAny (model prog w) A.in1 (storeInOwnDict (.ref x) (.ref C) (.str name tk) name v false) (λfin s'=>match fin with| .done f=>R (.ok f) s'| .again c'=>c'.quiet=true/\codeAny (model prog w) A c' R s') (λe s'=>R (.error e) s') s):
 codeAny (model prog w) A (.call (.builtin "object.__setattr__") ⟨[.ref x,.str name tk,v],[]⟩) R s:=by
 have SF:=PySem.F.store_object
 have L0:Looks (model prog w) s.heap (typeOf (.ref x)) (.ref C):=by
  have z:Looks (model prog w) s.heap (typeOf (.ref x)) ox.cls:=(Looks.ld hx).andThen .now
  rw[hc] at z
  exact z
 have Lo:Looks (model prog w) s.heap (isInstance (.ref x) (.type "object")) true:=L0.andThen (looks_mroIn X Z.ob)
 obtain⟨cd,hcd,hrow⟩:=any_some Z.row
 have hr:=(Bool.and_eq_true_iff.mp hrow).1
 have Lm:Looks (model prog w) s.heap (mroOf (.ref C)) cd.mro:=(looks_clsIn X hcd).andThen .now
 refine codeAny_call_builtin SF.slot.plain SF.entry (@check_slot (model prog w) _ _ s "object.__setattr__" "object" "__setattr__" (.ref x) [.str name tk,v] [] _ SF.kind SF.split Lo (SF.args (.ref x) (.str name tk) v) ?_)
 rw[osa_eq,refuse_eq]
 refine wpAny_bind (wpAny_bind (L0.here (wpAny_bind (Lm.here ?_))))
 rw[Vx hr]
 refine wpAny_pure (wpAny_bind (L0.here (wpAny_bind ((looks_findIn X Z.na).here (wpAny_bind ?_)))))
 exact(show Looks (model prog w) s.heap (storeTaker? none) none from .now).here h
theorem afg {Q:Unit->Shared->Prop}{vs:Array Value}(X:K.In s.heap)(Z:p8 K C name)(hx:s.heap.get? x=some ox)(hc:ox.cls=.ref C)(hdn:ox.dict=none)(hd:ox.data=.fields vs)
 (h:∀h' tk',h'.Ns1 s.heap.objs.size (λy=>if y=name then some v else none)->h'.get? x=some { ox with dict:=some s.heap.objs.size }->(∀b o,b≠x->s.heap.get? b=some o->h'.get? b=some o)->Q () { s with heap:=h',toks:=tk' }):
 wpAny (model prog w) A (setAttr (.ref x) name v) Q E s:=by
 have I:InstAt s.heap x ox C none:=⟨hx,hc,by unfold notCls;rw[hd],by rw[hdn];trivial⟩
 refine set_plain X I Z.sa (afe (s:={ s with toks:=s.toks+1 }) X Z hx hc ?_)
 obtain⟨cd,hcd,hrow⟩:=any_some Z.row
 have hdct:=(Bool.and_eq_true_iff.mp hrow).2
 obtain⟨oc,od,oda,osl⟩:=ox
 have hc:oc=.ref C:=hc
 have hdn:od=none:=hdn
 have hd:oda=.fields vs:=hd
 subst hc
 subst hdn
 subst hd
 have Lc:=looks_clsIn (M:=model prog w) X hcd
 obtain⟨hp,g,dr,tk,os⟩:=s
 have hx:hp.get? x=some ⟨.ref C,none,.fields vs,osl⟩:=hx
 have hxs:x≠hp.objs.size:=Nat.ne_of_lt (Heap.lt_size hx)
 unfold storeInOwnDict
 refine wpAny_bind (wpAny_pure ?_)
 refine wpAny_bind ?_
 show wpAny _ _ (instanceDict x true) _ _ _
 unfold instanceDict
 refine wpAny_bind (wpAny_loadPart hx (wpAny_bind (Lc.at ?_)))
 rw[hdct]
 rw[if_neg (by decide)]
 show wpAny _ _ (if(!true || !typeHasDict (.ref C))=true then _ else _) _ _ _
 rw[if_neg (by simp[typeHasDict])]
 show wpAny _ _ (alloc _ >>= _) _ _ _
 have hx1:(hp.push { cls:=.type "dict",data:=.dict #[] }).get? x=some ⟨.ref C,none,.fields vs,osl⟩:=Heap.get?_push_of_some _ hx
 refine wpAny_bind (wpAny_alloc' (wpAny_bind (wpAny_update' hx1 (wpAny_pure ?_))))
 generalize hH:(hp.push { cls:=.type "dict",data:=.dict #[] }).update x (λo=>{ cls:=o.cls,dict:=some hp.objs.size,data:=o.data,slots:=o.slots })=h1
 have gd:h1.get? hp.objs.size=some { cls:=.type "dict",data:=.dict #[] }:=by
  rw[<-hH]
  exact(Heap.get?_update_ne _ _ _ _ hxs.symm).trans (Heap.get?_push_at rfl rfl)
 have gx:h1.get? x=some ⟨.ref C,some hp.objs.size,.fields vs,osl⟩:=by
  rw[<-hH]
  exact Heap.get?_update_self _ hx1 rfl
 have go:∀b o,b≠x->hp.get? b=some o->h1.get? b=some o:=λb o hb e=>by
  rw[<-hH]
  exact(Heap.get?_update_ne _ _ _ _ hb).trans (Heap.get?_push_of_some _ e)
 have nsd:h1.Ns hp.objs.size (λ_=>none):=⟨_,#[],_,gd,rfl,(λe he=>absurd he (by simp)),λ_=>rfl⟩
 show wpAny _ _ (storeInDict hp.objs.size (.str name tk) name v) _ _ _
 unfold storeInDict newKeyGuard
 refine wpAny_bind (wpAny_pure (wpAny_bind (wpAny_nsSet1 (Heap.Ns1.of_empty nsd) λh2 hn2 hs2=>?_)))
 obtain⟨oD,esD,epD,hoD,hdD,hcD⟩:=hn2.count (PySem.Within.cons name v PySem.Within.nil)
 refine wpAny_bind (wpAny_lookBehind hoD (by rw[hdD];exact pastItsLine_dict (Nat.le_trans hcD (by rw[List.length_cons,List.length_nil,sizeLine_eq];omega))) ?_)
 exact wpAny_pure (h h2 _ hn2 ((hs2.2 x hxs).trans gx) λb o hb e=>(hs2.2 b (Nat.ne_of_lt (Heap.lt_size e))).trans (go b o hb e))
end
end L2
namespace L2
open PySem PySem.Spec PySem.Calls PyProof.Rows PySem.W PySem.Builtin PySem.Builtin.ObjectAttr PySem.Builtin.Getset_descriptor
section
variable {prog:Program}{w:World}{A:Around}{E:Value->Shared->Prop}{K:Frag}{h:Heap}{g:Array GenState}{d:Drawn}{t:Nat}{os:OsState}{a C dx:Addr}{o:Obj}{vs:Array Value}{mA:Str->Option Value}{name:Str}{v:Value}
theorem afi {tk:Tok}{Q:Fin->Shared->Prop}(X:K.In h)(Z:iU K C)(Y:p8 K C name)(hx:h.get? a=some o)(hc:o.cls=.ref C)(hd:o.data=.fields vs)(hdx:o.dict=some dx)(hn:h.Ns dx mA)(hv:mA name=some v)(hq:Q (.done (.ret v)) ⟨h,g,d,t,os⟩):
 wpAny (model prog w) A (Builtin.«object.__getattribute__» ⟨[.ref a,.str name tk],[]⟩) Q E ⟨h,g,d,t,os⟩:=by
 obtain⟨cd,hcd,hrow⟩:=any_some Y.row
 have hdct:=(Bool.and_eq_true_iff.mp hrow).2
 have L1:=looks_findIn (M:=model prog w) X Y.na
 have L2:=looks_clsIn (M:=model prog w) X hcd
 obtain⟨oc,od,oda,osl⟩:=o
 have hc:oc=.ref C:=hc
 have hd:oda=.fields vs:=hd
 have hdx:od=some dx:=hdx
 subst hc
 subst hd
 subst hdx
 have hC:∃c' d' sl',h.get? C=some ⟨c',d',.cls cd,sl'⟩:=by
  unfold clsIn at hcd
  split at hcd
  . rename_i c' d' cd' sl' ho
    cases hcd
    exact⟨c',d',sl',X _ _ ho⟩
  . cases hcd
 obtain⟨c',d',sl',hC⟩:=hC
 obtain⟨c1,c2,c3,c4,c5,c6,c7,c8,c9,tL,tM⟩:=cd
 have hdct:c6=true:=hdct
 subst hdct
 repeat (any_goals (first|assumption|with_reducible refine wpAny_loadPart_at hx ?_|with_reducible refine wpAny_loadPart_at hC ?_|with_reducible refine L1.at ?_|(with_reducible refine wpAny_nsGet hn ?_;rw[hv])|wp_step))
theorem afj {tk:Tok}{fill expr:Bool}{Q:Value->Shared->Prop}(X:K.In h)(Z:iU K C)(Y:p8 K C name)(hx:h.get? a=some o)(hc:o.cls=.ref C)(hd:o.data=.fields vs)(hdx:o.dict=some dx)(hn:h.Ns dx mA)(hv:mA name=some v)(hh:handedOut v=pure v)(hq:Q v ⟨h,g,d,t,os⟩):
 wpAny (model prog w) A (getAttrBy (.ref a) (.str name tk) fill expr) Q E ⟨h,g,d,t,os⟩:=by
 have f3:=F.attr_ValueError.ga.bind (.ref a)
 have hx0:(expr && onTheHeap (Value.builtin "BaseException.__getattribute__"))=false:=by cases expr <;> rfl
 have hx2:(Value.builtin "BaseException.__getattribute__" == Value.builtin "object.__getattribute__")=false:=by decide +kernel
 have hx1:(onTheHeap (Value.ref C) && Value.builtin "BaseException.__getattribute__" == Value.builtin "object.__getattribute__")=false:=by rw[hx2];rfl
 have L1:=looks_findIn (M:=model prog w) X Z.ga
 have L2:=looks_findIn (M:=model prog w) X Z.gt
 repeat (any_goals (first|assumption|(with_reducible refine wpAny_loadPart_at hx ?_;rw[hc])|with_reducible refine L1.at ?_|with_reducible refine L2.at ?_|wp_step))
 refine codeAny_call_builtin F.attr_ValueError.ga.plain F.entry_bexc_ga (Rg X Z hx hc (afi X Z Y hx hc hd hdx hn hv ?_))
 repeat (any_goals (first|assumption|wp_step))
theorem afk {expr:Bool}{Q:Value->Shared->Prop}(X:K.In h)(Z:iU K C)(Y:p8 K C name)(hx:h.get? a=some o)(hc:o.cls=.ref C)(hd:o.data=.fields vs)(hdx:o.dict=some dx)(hn:h.Ns dx mA)(hv:mA name=some v)(hh:handedOut v=pure v)(hq:Q v ⟨h,g,d,t+1,os⟩):
 wpAny (model prog w) A (getAttr (.ref a) name expr) Q E ⟨h,g,d,t,os⟩:=by
 unfold getAttr
 repeat (any_goals (first|assumption|with_reducible apply afj X Z Y hx hc hd hdx hn hv hh|wp_step))
end
end L2
namespace L2
open PySem PySem.Spec PyProof.Rows
section
variable {M:Model}{A:Around}{E:Value->Shared->Prop}{s:Shared}
structure jU (h:Heap) (e T:Addr) (cls:Value) (dd:Option Addr) (fl:Value):Prop where
 ex:∃oe vs,h.get? e=some oe/\oe.cls=cls/\oe.dict=dd/\oe.data=.fields vs/\vs[1]? =some (.ref T)
 tb:∃oT ts,h.get? T=some oT/\oT.data=.fields ts/\ts[3]? =some fl
 ne:T≠e
theorem z7 {e T:Addr}{cls fl:Value}{dd:Option Addr}{Q:Unit->Shared->Prop}(t:jU s.heap e T cls dd fl)(h:∀h',jU h' e T cls dd .none->(∀b o,b≠T->s.heap.get? b=some o->h'.get? b=some o)->(∃o',h'.get? T=some o')->Q () { s with heap:=h' }):wpAny M A (setFlight (.ref e) none) Q E s:=by
 obtain⟨⟨oe,vs,he,hc,hdi,hd,h1⟩,⟨oT,ts,hT,hdT,h3⟩,ne⟩:=t
 have em:Obj.mapFields (·.setIfInBounds 3 ((none:Option Addr).elim Value.none λf=>rawInt f)) oT={ oT with data:=.fields (ts.setIfInBounds 3 .none) }:=Dj hdT
 have hsz:=(Array.getElem?_eq_some_iff.mp h3).1
 unfold setFlight
 refine wpAny_bind (wpAny_field he hd h1 ?_)
 rw[if_pos (show(Value.ref T != Value.none)=true by simp)]
 have self:=Heap.get?_update_self (Obj.mapFields (·.setIfInBounds 3 ((none:Option Addr).elim Value.none λf=>rawInt f))) hT (by rw[em];exact Obj.isFreed_of_fields rfl)
 rw[em] at self
 have oth:∀b o,b≠T->s.heap.get? b=some o->(s.heap.update T (Obj.mapFields (·.setIfInBounds 3 ((none:Option Addr).elim Value.none λf=>rawInt f)))).get? b=some o:=λb o hb ho=>by
  rw[Heap.get?_update_other _ _ (Ne.symm hb)];exact ho
 exact wpAny_setField hT hdT hsz (h _ ⟨⟨oe,vs,oth e oe (Ne.symm ne) he,hc,hdi,hd,h1⟩,⟨_,_,self,rfl,by simp[hsz]⟩,ne⟩ oth ⟨_,self⟩)
theorem Vy {base:Heap}{env:Env}{outer:List Env}{L e T:Addr}{cls:Value}{dd:Option Addr}{Q:Unit->Shared->Prop}(hfr:A.frames=some (env::outer))(hl:s.heap.FunFrames base (env::outer))(hf:env.frame=some L)(t:jU s.heap e T cls dd .none)
 (h:∀(h':Heap) (T':Addr),s.heap.objs.size<=T'->(∀b o,b ∉ frs (env::outer)->b≠e->b≠T->s.heap.get? b=some o->h'.get? b=some o)->(∀b o,b≠e->b≠T->s.heap.get? b=some o->∃sl,h'.get? b=some { o with slots:=sl })->(∃o,h'.get? T=some o)->jU h' e T' cls dd (rawInt L)->Q () { s with heap:=h' }):
 wpAny M A (noteFrame (.ref e) env) Q E s:=by
 obtain⟨⟨oe,vs,he,hc,hdi,hd,h1⟩,⟨oT,ts,hT,hdT,h3⟩,ne⟩:=t
 have hsz:=(Array.getElem?_eq_some_iff.mp h3).1
 have em:Obj.mapFields (·.setIfInBounds 3 Value.none) oT={ oT with data:=.fields (ts.setIfInBounds 3 .none) }:=Dj hdT
 unfold noteFrame
 simp only[hf]
 refine wpAny_bind (wpAny_field he hd h1 ?_)
 rw[if_pos (show(Value.ref T != Value.none)=true by simp)]
 refine wpAny_bind (wpAny_field hT hdT h3 ?_)
 rw[if_neg (show ¬(Value.none == rawInt L)=true by simp[rawInt])]
 refine wpAny_bind (wpAny_setField hT hdT hsz ?_)
 have self:=Heap.get?_update_self (Obj.mapFields (·.setIfInBounds 3 Value.none)) hT (by rw[em];exact Obj.isFreed_of_fields rfl)
 rw[em] at self
 have oth:∀b o,b≠T->s.heap.get? b=some o->(s.heap.update T (Obj.mapFields (·.setIfInBounds 3 Value.none))).get? b=some o:=λb o hb ho=>by
  rw[Heap.get?_update_other _ _ (Ne.symm hb)];exact ho
 have nT:∀b o,s.heap.get? b=some o->(∀vs,o.data≠ .fields vs)->b≠T:=λb o ho hn z=>by
  rw[z,hT] at ho
  cases ho
  exact hn ts hdT
 have hsize:(s.heap.update T (Obj.mapFields (·.setIfInBounds 3 Value.none))).objs.size=s.heap.objs.size:=Heap.size_update _ _ _
 refine Ra (s:={ s with heap:=s.heap.update T (Obj.mapFields (·.setIfInBounds 3 Value.none)) }) hfr (hl.of_keeps λb o ho hn=>⟨o,oth b o (nT b o ho hn) ho,rfl⟩) hf (oth e oe (Ne.symm ne) he) hd (Array.getElem?_eq_some_iff.mp h1).1 λh' T' hT' hP he' htb=>?_
 have hle:s.heap.objs.size<=T':=by rw[<-hsize];exact hT'
 refine h h' T' hle (λb o hb hbe hbT ho=>hP.1 b o hb hbe (oth b o hbT ho)) (λb o hbe hbT ho=>hP.2 b o hbe (oth b o hbT ho)) ?_ ⟨⟨_,_,he',hc,hdi,rfl,by simp[(Array.getElem?_eq_some_iff.mp h1).1]⟩,htb,?_⟩
 . obtain⟨sl,hs⟩:=hP.2 T _ ne self
   exact⟨_,hs⟩
 . have h1:e<s.heap.objs.size:=Heap.lt_size he
   exact λz=>Nat.lt_irrefl e (Nat.lt_of_lt_of_le h1 (by rw[<-z];exact hle))
end
section
variable {X:Cx}{pins:List (Addr × Obj)}{σ:St}{H:Hp}{s:Shared}
theorem Inv.afl (I:Inv X pins σ H s)(hex:X.ex=[])(hst:X.stack=X.env::X.outer)(hfm:X.env.frame=some X.env.locals){a T:Addr}{cls:Value}{dd:Option Addr}{Q:Unit->Shared->Prop}{E:Value->Shared->Prop}{M:Model}(t:jU s.heap a T cls dd .none)
 (ha:X.s₀.heap.get? a=none) (hT:X.s₀.heap.get? T=none) (na:H a=none) (nT:H T=none)
 (q:∀(h':Heap) (T':Addr),jU h' a T' cls dd .none->X.s₀.heap.get? T'=none->H T'=none->Un (frs X.outer) [] X.H₀ H X.s₀.heap h'->cF X.prog X.w H h'->Q () { s with heap:=h' }):
 wpAny M X.A (leaving X.env (.ref a)) Q E s:=by
 have hfr:X.A.frames=some (X.env::X.outer):=by rw[<-hst];exact I.ok.frames
 have hl:s.heap.FunFrames X.base (X.env::X.outer):=by rw[<-hst];exact I.stack
 unfold leaving
 refine wpAny_bind (Vy hfr hl hfm t λh1 T1 hT1 k1 k2 hTT t1=>?_)
 refine z7 (s:={ s with heap:=h1 }) t1 λh2 t2 k3 hT2=>?_
 have G5:H T1=none:=I.hok.fresh hT1
 have mz:∀b o,s.heap.get? b=some o->b≠T1:=λb o e z=>by
  have h3:=Heap.lt_size e
  rw[z] at h3
  exact Nat.lt_irrefl _ (Nat.lt_of_lt_of_le h3 hT1)
 obtain⟨u,ok⟩:=I.Rf hex (h':=h2) ha hT na nT (λb o hb h1' h2' e=>k3 b o (mz b o e) (k1 b o (by rw[<-hst];exact hb) h1' h2' e)) (λb o h1' h2' e=>by
  obtain⟨sl,e1⟩:=k2 b o h1' h2' e
  exact⟨sl,k3 b _ (mz b o e) e1⟩)
 exact q h2 T1 t2 (I.sE hex (Heap.Rc hT1)) G5 u ok
end
noncomputable def i_ (P:Program) (w:World):jw:=λouter H s E e s'=>∃(a T C:Addr) (dd:Option Addr) (H':Hp),e=.ref a/\jU s'.heap a T (.ref C) dd .none/\s.heap.get? a=none/\s.heap.get? T=none/\H' a=none/\H' T=none/\s'.os=s.os/\AllBare s'.gens/\Un (frs outer) [] H H' s.heap s'.heap/\cF P w H' s'.heap/\E (.ref C) dd H'
theorem Vz {P:Program}{w:World}{K:W.Frag}{mg:Str->Option Value}{base:Heap}{N:List Str}{qual:Str}{scope:Scope}{f:Addr}{cd:Value}{A:Around}{outer:List Env}{s₀:Shared}{H₀:Hp}{E E':XK}(hE:∀C d H,E' C d H->E C d H):
 Passes (i_ P w) (lM (i_ P w) P w K mg base N qual scope f cd A outer s₀ H₀ E) E':=λpins σ H s e s' I h=>by
 obtain⟨a,T,C,dd,H',rfl,t,la,lT,na,nT,os,bare,un,hok,hE'⟩:=h
 obtain⟨hh,g,d,tk,os'⟩:=s'
 obtain rfl:os'=s.os:=os
 have I':=I.call (h':=hh) (g':=g) (d':=d) (t':=tk) (ch:=[]) un hok bare (λb z=>absurd z (by simp))
 show wpAny (model P w) _ (leaving _ _) _ _ _
 refine I'.afl rfl rfl rfl t (I.sE rfl la) (I.sE rfl lT) na nT λh' T' t' G6 G7 un' hok'=>?_
 exact⟨a,T',C,dd,H',rfl,t',I.sE rfl la,G6,na,G7,I'.os,bare,un',hok',hE _ _ _ hE'⟩
section
variable {M:Model}{A:Around}{E:Value->Shared->Prop}{s:Shared}
theorem afm {base:Heap}{env:Env}{outer:List Env}{L e:Addr}{cls:Value}{dd:Option Addr}{oe:Obj}{vs:Array Value}{Q:Unit->Shared->Prop}(hfr:A.frames=some (env::outer))(hl:s.heap.FunFrames base (env::outer))(hf:env.frame=some L)
 (he:s.heap.get? e=some oe) (hc:oe.cls=cls) (hdi:oe.dict=dd) (hd:oe.data=.fields vs) (h1:vs[1]? =some .none)
 (h:∀(h':Heap) (T':Addr),s.heap.objs.size<=T'->(∀b o,b ∉ frs (env::outer)->b≠e->s.heap.get? b=some o->h'.get? b=some o)->(∀b o,b≠e->s.heap.get? b=some o->∃sl,h'.get? b=some { o with slots:=sl })->jU h' e T' cls dd (rawInt L)->Q () { s with heap:=h' }):
 wpAny M A (noteFrame (.ref e) env) Q E s:=by
 have hsz:=(Array.getElem?_eq_some_iff.mp h1).1
 unfold noteFrame
 simp only[hf]
 refine wpAny_bind (wpAny_field he hd h1 ?_)
 rw[if_neg (by decide)]
 refine Ra hfr hl hf he hd hsz λh' T' hT' hP he' htb=>?_
 refine h h' T' hT' hP.1 hP.2 ⟨⟨_,_,he',hc,hdi,rfl,by simp[hsz]⟩,htb,λz=>?_⟩
 have h3:=Heap.lt_size he
 rw[<-z] at h3
 exact Nat.lt_irrefl _ (Nat.lt_of_lt_of_le h3 hT')
end
section
variable {X:Cx}{pins:List (Addr × Obj)}{σ:St}{H:Hp}{s:Shared}
theorem Inv.afn (I:Inv X pins σ H s)(hex:X.ex=[])(hst:X.stack=X.env::X.outer)(hfm:X.env.frame=some X.env.locals){a:Addr}{oe:Obj}{vs:Array Value}{cls:Value}{dd:Option Addr}{Q:Unit->Shared->Prop}{E:Value->Shared->Prop}{M:Model}
 (he:s.heap.get? a=some oe) (hc:oe.cls=cls) (hdi:oe.dict=dd) (hd:oe.data=.fields vs) (h1:vs[1]? =some .none) (ha:X.s₀.heap.get? a=none) (na:H a=none)
 (q:∀(h':Heap) (T':Addr),jU h' a T' cls dd .none->X.s₀.heap.get? T'=none->H T'=none->Un (frs X.outer) [] X.H₀ H X.s₀.heap h'->cF X.prog X.w H h'->Q () { s with heap:=h' }):
 wpAny M X.A (leaving X.env (.ref a)) Q E s:=by
 have hfr:X.A.frames=some (X.env::X.outer):=by rw[<-hst];exact I.ok.frames
 have hl:s.heap.FunFrames X.base (X.env::X.outer):=by rw[<-hst];exact I.stack
 unfold leaving
 refine wpAny_bind (afm hfr hl hfm he hc hdi hd h1 λh1 T1 hT1 k1 k2 t1=>?_)
 refine z7 (s:={ s with heap:=h1 }) t1 λh2 t2 k3 hT2=>?_
 have G5:H T1=none:=I.hok.fresh hT1
 have mz:∀b o,s.heap.get? b=some o->b≠T1:=λb o e z=>by
  have h3:=Heap.lt_size e
  rw[z] at h3
  exact Nat.lt_irrefl _ (Nat.lt_of_lt_of_le h3 hT1)
 obtain⟨u,ok⟩:=I.Rf hex (h':=h2) ha ha na na (λb o hb h1' _ e=>k3 b o (mz b o e) (k1 b o (by rw[<-hst];exact hb) h1' e)) (λb o h1' _ e=>by
  obtain⟨sl,e1⟩:=k2 b o h1' e
  exact⟨sl,k3 b _ (mz b o e) e1⟩)
 exact q h2 T1 t2 (I.sE hex (Heap.Rc hT1)) G5 u ok
end
noncomputable def jt (a C:Addr) (dd:Option Addr):HO:=.ext λh=>∃o,h.get? a=some o/\o.cls=.ref C/\o.dict=dd/\∃vs,o.data=.fields vs
theorem jt.ok {P:Program}{w:World}{H:Hp}{h:Heap}{a C:Addr}{dd:Option Addr}(e:∃o,h.get? a=some o/\o.cls=.ref C/\o.dict=dd/\∃vs,o.data=.fields vs):cM P w H h a (jt a C dd):=
 ⟨e,let⟨o,h1,_⟩:=e;⟨o,h1⟩,λ_ _ ⟨o,h1,h2⟩ k=>⟨o,k o h1,h2⟩⟩
noncomputable def wj (X:Cx) (pins:List (Addr × Obj)) (σ:St) (Ek:XK) (e:Value) (s':Shared):Prop:=∃H s,Inv X pins σ H s/\i_ X.prog X.w X.stack H s Ek e s'
noncomputable def tO (X:Cx) (Ek:XK) (e:Expr) (t:TE):Prop:=
 ∀(pins:List (Addr × Obj)) (s:Shared) (σ:St) (H:Hp) (Q:VK),Inv X pins σ H s->t σ H Q->wpAny (model X.prog X.w) X.A (eval e X.env) (EP X pins σ Q) (wj X pins σ Ek) s
noncomputable def G8 (X:Cx) (Ek:XK) (st:List Stmt) (t:TS):Prop:=
 ∀(pins:List (Addr × Obj)) (s:Shared) (σ:St) (H:Hp) (D:Ends),Inv X pins σ H s->t D σ H->wpAny (model X.prog X.w) X.A (execs st X.env) (SP X pins D) (wj X pins σ Ek) s
section
variable {X:Cx}{k:Nat}{f:Addr}{fd:FuncData}{ps:List Str}{sp:Sp}{eG:List V}{ds:List Value}{Ek:XK}{x:Str}{p pos:Pos}{e:Expr}{es:List Expr}{t:TA}{te:TE}
theorem afo (he:tO X Ek e te)(hs:swapsWith e none pos.line X.env=pure false:=by rfl):G8 X Ek [.Expr e pos] (Bp te):=by
 intro pins s σ H D I h
 refine wpAny_execs_cons (wpAny_Expr_any (wpAny_mono (he pins s σ H _ I h) (λv s1 ⟨x,H1,I1,r1,q1⟩=>?_) λ_ _ z=>z) I.quiet hs)
 exact wpAny_execs_nil ⟨σ,H1,I1,q1⟩
theorem afp {i:Nat}{y:Str}{pos':Pos}(hN:X.N.Nodup)(hi:X.N[i]? =some y)(hx:Loc X.env.scope y)(he:tO X Ek e te)(hs:swapsWith e (some (.Name y pos')) pos.line X.env=pure false:=by rfl)(hf:X.fn y=true\/X.env.scope.names.lookup y=some .local:=by first|exact .inl rfl|exact .inr rfl|assumption):
 G8 X Ek [.Assign [.Name y pos'] e pos] (mL te (dG i)):=by
 intro pins s σ H D I h
 refine wpAny_execs_cons (wpAny_Assign_Name (wpAny_mono (he pins s σ H _ I h) (λv s1 ⟨z,H1,I1,r1,q1⟩=>?_) λ_ _ z=>z) hs)
 exact uL I1 hN hi hx r1 (λs2 I2=>wpAny_execs_nil ⟨_,H1,I2,q1⟩) hf
end
theorem afq {X:Cx}{pins:List (Addr × Obj)}{σ:St}{Ek:XK}{e:Value}{s':Shared}{Q:Unit->Shared->Prop}{E:Value->Shared->Prop}(hst:X.stack=X.env::X.outer)(hfm:X.env.frame=some X.env.locals)(h:wj X pins σ Ek e s')
 (q:∀(a C T:Addr) (dd:Option Addr) (H':Hp) (h2:Heap),e=.ref a->H' a=none->Ek (.ref C) dd H'->jU h2 a T (.ref C) dd .none->Inv X pins σ (upd H' a (jt a C dd)) { s' with heap:=h2 }->
   (∀h3:Heap,jU h3 a T (.ref C) dd .none->(∀b o,b≠T->h2.get? b=some o->h3.get? b=some o)->Inv X pins σ (upd H' a (jt a C dd)) { s' with heap:=h3 })->Q () { s' with heap:=h2 }):
 wpAny (model X.prog X.w) X.A (noteFrame e X.env) (λ_ s2=>wpAny (model X.prog X.w) X.A (setFlight e none) Q E s2) E s':=by
 obtain⟨H,s,I,a,T,C,dd,H',rfl,t,la,lT,na,nT,os,bare,un,hok,hE⟩:=h
 have I':=I.call' (s':=s') (ch:=[]) os un hok bare (λb z=>absurd z (by simp))
 have hfr:X.A.frames=some (X.env::X.outer):=by rw[<-hst];exact I.ok.frames
 have hl:s'.heap.FunFrames X.base (X.env::X.outer):=by rw[<-hst];exact I'.stack
 refine Vy hfr hl hfm t λh1 T1 hT1 k1 k2 hTT t1=>?_
 refine z7 (s:={ s' with heap:=h1 }) t1 λh2 t2 k3 hT2=>?_
 have mz:∀b o,s'.heap.get? b=some o->b≠T1:=λb o e z=>by
  have h3:=Heap.lt_size e
  rw[z] at h3
  exact Nat.lt_irrefl _ (Nat.lt_of_lt_of_le h3 hT1)
 have key:∀h3:Heap,jU h3 a T1 (.ref C) dd .none->(∀b o,b≠T1->h2.get? b=some o->h3.get? b=some o)->Inv X pins σ (upd H' a (jt a C dd)) { s' with heap:=h3 }:=λh3 t3 k4=>by
  have m1:∀b o,b ∉ frs X.stack->b≠a->b≠T->s'.heap.get? b=some o->h3.get? b=some o:=λb o hb n1 n2 e=>
   k4 b o (mz b o e) (k3 b o (mz b o e) (k1 b o (by rw[<-hst];exact hb) n1 n2 e))
  have m2:∀b o,b≠a->b≠T->s'.heap.get? b=some o->∃sl,h3.get? b=some { o with slots:=sl }:=λb o n1 n2 e=>by
   obtain⟨sl,e1⟩:=k2 b o n1 n2 e
   exact⟨sl,k4 b _ (mz b o e) (k3 b _ (mz b o e) e1)⟩
  have old:∀b o,s.heap.get? b=some o->b≠a/\b≠T:=λb o e=>⟨(λz=>by rw[z,la] at e;cases e),λz=>by rw[z,lT] at e;cases e⟩
  refine I.call' (s':={ s' with heap:=h3 }) (ch:=[]) os ⟨λb o e n hb _=>?_,λb o e n hb hx=>?_,λb o e n hx=>?_,λb o e hx=>?_,λb xs e=>?_,λb o u e=>?_,λb ps e=>?_⟩ (λb o e=>?_) bare (λb z=>absurd z (by simp))
  . exact m1 b o hb (old b o e).1 (old b o e).2 (un.keep b o e n hb (by simp))
  . obtain⟨sl,e1⟩:=un.slot b o e n hb hx
    obtain⟨sl',e2⟩:=m2 b _ (old b o e).1 (old b o e).2 e1
    exact⟨sl',e2⟩
  . rw[au (old b o e).1];exact un.free b o e n hx
  . obtain⟨o',e1⟩:=un.there b o e hx
    obtain⟨sl',e2⟩:=m2 b _ (old b o e).1 (old b o e).2 e1
    exact⟨_,e2⟩
  . have:=un.tups b xs e
    rw[au (aR this na)];exact this
  . have:=un.jg b o u e
    rw[au (aR this na)];exact this
  . obtain⟨more,this⟩:=un.jh b ps e
    exact⟨more,by rw[au (aR this na)];exact this⟩
  . by_cases hb:b=a
    . subst hb
      rw[aD] at e
      cases e
      obtain⟨oe,vs,he,hc,hdi,hda,_⟩:=t3.ex
      exact jt.ok ⟨oe,he,hc,hdi,vs,hda⟩
    . rw[au hb] at e
      refine(hok b o e).stay (λc u hc r=>?_) (λc r=>by rw[au (aR r na)];exact r) λc xs r=>by rw[au (aR r na)];exact r
      have hc':∃v,H' c=some v:=by
       rcases hc with z|z
       . exact⟨o,by rw[z];exact e⟩
       . exact⟨_,z⟩
      obtain⟨v,hv⟩:=hc'
      refine m1 c u (λz=>?_) (aR hv na) (aR hv nT) r
      rw[I'.uJ c z] at hv;cases hv
 exact q a C T1 dd H' h2 rfl na hE t2 (key h2 t2 λ_ _ _ e=>e) key
noncomputable def afr (Ek:XK) (i:Nat) (tb ts:TS):TS:=λD σ H=>tb D σ H/\∀(a C:Addr) (dd:Option Addr) (H':Hp),H' a=none->Ek (.ref C) dd H'->ts (D.un i) (σ.set i (some (.ref a))) (upd H' a (jt a C dd))
theorem VB {X:Cx}{body:List Stmt}{x n:Str}{Dc:Addr}{Ek:XK}{i:Nat}{b₀:Stmt}{suite:List Stmt}{np hpos pos:Pos}{tb ts:TS}(hst:X.stack=X.env::X.outer)(hfm:X.env.frame=some X.env.locals)
 (hb:G8 X Ek body tb) (hg:Gl X x) (hm:X.mg x=some (.ref Dc)) (h1:W.typeIn X.K (.ref Dc)=some (.type "type")) (h2:(W.clsIn X.K Dc).isSome=true) (h3:W.subIn X.K (.ref Dc) (.type "BaseException")=some true)
 (h4:∀C dd H,Ek (.ref C) dd H->W.subIn X.K (.ref C) (.ref Dc)=some true) (hN:X.N.Nodup) (hi:X.N[i]? =some n) (hlo:X.env.kindOf n=some .local) (hs:∀a,gP (X.marked a) (b₀::suite) ts) (hd:(x == ("__debug__":Str))=false:=by decide):
 PS X (.Try body [.ExceptHandler (some (.Name x np)) (some n) (b₀::suite) hpos] [] [] pos) (afr Ek i tb ts):=by
 intro pins s σ H D I h
 obtain⟨hq,hk⟩:=h
 refine wpAny_Try_except (wpAny_mono (hb pins s σ H D I hq) (λf s1 q=>?_) λe s1 z=>?_)
 . cases f with
   |next=>exact wpAny_execs_nil q
   |ret v=>exact q
   |brk=>exact q
   |cont=>exact q
 . refine afq hst hfm z λa C T dd H' h2' e1 na hE t2 I2 key=>?_
   subst e1
   have ok:=I2.ok
   refine wpAny_handleBy_cons (codeAny_handlers_test ?_) (by intro q;cases q)
   refine uM (X:=X.marked a) (I2.marked a) hg hm ?_ hd
   obtain⟨oe,vs,he,hc,_⟩:=id t2.ex
   refine acN I2.cN h1 h2 h3 (h4 C dd H' hE) he hc ?_
   simp only[if_true]
   refine codeAny_handlers_suite_as ?_
   refine z7 t2 λh3' t3 k3 _=>?_
   have I3:=key h3' t3 k3
   refine uL I3 hN hi (.inl hlo) (show RelV (.ref a) (.ref a) from rfl) (λs4 I4=>?_) (.inr hlo)
   refine wpAny_mono (hs a pins s4 _ _ (D.un i) (I4.marked a) (hk a C dd H' na hE)) (λf s5 q=>?_) λ_ _ z=>False.elim z
   show wpAny _ _ _ _ _ _
   cases f with
   |next=>
    obtain⟨σ',H5,I5,q⟩:=q
    exact(I5.unmarked ok).unbind hN hi hlo λs6 I6=>⟨_,_,I6,q⟩
   |ret v=>
    obtain⟨y,σ',H5,I5,r,q⟩:=q
    exact(I5.unmarked ok).unbind hN hi hlo λs6 I6=>⟨y,_,_,I6,r,q⟩
   |brk=>
    obtain⟨σ',H5,I5,q⟩:=q
    exact(I5.unmarked ok).unbind hN hi hlo λs6 I6=>⟨_,_,I6,q⟩
   |cont=>
    obtain⟨σ',H5,I5,q⟩:=q
    exact(I5.unmarked ok).unbind hN hi hlo λs6 I6=>⟨_,_,I6,q⟩
noncomputable def nO (a C:Addr):HO:=.ext λh=>∃o t,h.get? a=some o/\o.cls=.ref C/\o.dict=none/\o.data=.fields #[t,.none,.none,.none,.bool false,.none]
noncomputable def MadeX (a C dx:Addr):HO:=.ext λh=>∃o t,h.get? a=some o/\o.cls=.ref C/\o.dict=some dx/\o.data=.fields #[t,.none,.none,.none,.bool false,.none]
theorem nO.ok {P:Program}{w:World}{H:Hp}{h:Heap}{a C:Addr}(e:∃o t,h.get? a=some o/\o.cls=.ref C/\o.dict=none/\o.data=.fields #[t,.none,.none,.none,.bool false,.none]):cM P w H h a (nO a C):=
 ⟨e,let⟨o,t,h1,_⟩:=e;⟨o,h1⟩,λ_ _ ⟨o,t,h1,h2⟩ k=>⟨o,t,k o h1,h2⟩⟩
theorem MadeX.ok {P:Program}{w:World}{H:Hp}{h:Heap}{a C dx:Addr}(e:∃o t,h.get? a=some o/\o.cls=.ref C/\o.dict=some dx/\o.data=.fields #[t,.none,.none,.none,.bool false,.none]):cM P w H h a (MadeX a C dx):=
 ⟨e,let⟨o,t,h1,_⟩:=e;⟨o,h1⟩,λ_ _ ⟨o,t,h1,h2⟩ k=>⟨o,t,k o h1,h2⟩⟩
noncomputable def rem (H:Hp) (a:Addr):Hp:=λb=>if b=a then none else H b
theorem G9 {H:Hp}{a:Addr}:rem H a a=none:=if_pos rfl
theorem mC {H:Hp}{a b:Addr}(h:b≠a):rem H a b=H b:=if_neg h
section
variable {X:Cx}{pins:List (Addr × Obj)}{σ:St}{H:Hp}{s:Shared}
noncomputable def afs (K:W.Frag) (ta tv:TE) (f:Str):TS:=λD σ H=>tv σ H λy H1=>ta σ H1 λx H2=>∃a C,x=.ref a/\H2 a=some (nO a C)/\p8 K C f/\
 ∀dx,H2 dx=none->dx≠a->D.nx σ (upd (upd H2 dx (.xd [(f,y)])) a (MadeX a C dx))
theorem aft {o value:Expr}{ta tv:TE}{f:Str}{pos pos':Pos}(ha:PE X o ta)(hv:PE X value tv)(hs:swapsWith value (some (.Attribute o f pos')) pos.line X.env=pure false):PS X (.Assign [.Attribute o f pos'] value pos) (afs X.K ta tv f):=by
 intro pins s σ H D I h
 refine plainObj_wpAny_Assign_Attribute (aO (hv pins s σ H _ I h) λu s1 ⟨y,H1,I1,ry,q⟩=>aO (ha pins s1 σ H1 _ I1 q) λov s2 ⟨x,H2,I2,rx,a,C,ex,ea,Z,q2⟩=>?_) hs
 subst ex
 obtain rfl:ov=Value.ref a:=rx
 obtain⟨oe,t,he,hc,hdi,hda⟩:=(I2.hok a _ ea).1
 refine afg I2.cN Z he hc hdi hda λh' tk' hn hx hk=>?_
 have hfr:H2 s2.heap.objs.size=none:=I2.hok.fresh (Nat.le_refl _)
 have hne:s2.heap.objs.size≠a:=(Nat.ne_of_lt (Heap.lt_size he)).symm
 have nea:∀b u,H2 b=some u->(∀C',u≠nO a C')->b≠a:=λb u e hu z=>by
  subst z
  rw[ea] at e
  exact hu C (Option.some.inj e).symm
 refine⟨σ,_,I2.call' (s':={ s2 with heap:=h',toks:=tk' }) (ch:=[]) rfl ⟨λb ob e n hb _=>?_,λb ob e n hb _=>?_,λb ob e n _=>?_,λb ob e _=>?_,λb xs e=>?_,λb ob u e=>?_,λb ps e=>?_⟩ (λb u e=>?_) I2.bare (λb z=>absurd z (by simp)),q2 s2.heap.objs.size hfr hne⟩
 . exact hk b ob (aR ea n).symm e
 . exact⟨ob.slots,hk b ob (aR ea n).symm e⟩
 . rw[au (aR ea n).symm,au (Nat.ne_of_lt (Heap.lt_size e))];exact n
 . by_cases hb:b=a
   . subst hb;exact⟨_,hx⟩
   . exact⟨ob,hk b ob hb e⟩
 . have h1:b≠a:=λz=>by rw[z,ea] at e;cases e
   rw[au h1,au (aR e hfr)];exact e
 . have h1:b≠a:=λz=>by rw[z,ea] at e;cases e
   rw[au h1,au (aR e hfr)];exact e
 . have h1:b≠a:=λz=>by rw[z,ea] at e;cases e
   exact⟨#[],by rw[au h1,au (aR e hfr),Array.append_empty];exact e⟩
 . by_cases h1:b=a
   . subst h1
     rw[aD] at e
     cases e
     exact MadeX.ok ⟨_,t,hx,hc,rfl,hda⟩
   . rw[au h1] at e
     by_cases h2:b=s2.heap.objs.size
     . subst h2
       rw[aD] at e
       cases e
       refine⟨_,hn,λg=>?_⟩
       by_cases hg:g=f
       . subst hg
         rw[if_pos rfl]
         rw[List.lookup_cons,beq_self_eq_true]
         exact ry
       . rw[if_neg hg]
         rw[List.lookup_cons,beq_false_of_ne hg]
         trivial
     . rw[au h2] at e
       refine(I2.hok b u e).stay (λc v hc' r=>hk c v ?_ r) (λc r=>?_) λc xs r=>?_
       . rintro rfl
         rcases hc' with z|z
         . exact h1 z.symm
         . rw[ea] at z;cases z
       . have n1:c≠a:=λz=>by rw[z,ea] at r;cases r
         rw[au n1,au (aR r hfr)];exact r
       . have n1:c≠a:=λz=>by rw[z,ea] at r;cases r
         rw[au n1,au (aR r hfr)];exact r
theorem Inv.afu (I:Inv X pins σ H s){h':Heap}{e C:Addr}{us:List Value}(hm:Heap.MadeExcOf s.heap h' e (.ref C) us):H e=none/\Inv X pins σ (upd H e (nO e C)) { s with heap:=h' }:=by
 obtain⟨t,he,_,_⟩:=hm.there
 have hnew:s.heap.get? e=none:=hm.new
 have na:H e=none:=by
  cases q:H e with
  |none=>rfl
  |some o=>
   obtain⟨o',e'⟩:=(I.hok e o q).ex
   rw[hnew] at e';cases e'
 refine⟨na,I.call' (s':={ s with heap:=h' }) (ch:=[]) rfl ⟨λb ob e1 n hb _=>hm.keeps b ob e1,λb ob e1 n hb _=>⟨ob.slots,hm.keeps b ob e1⟩,λb ob e1 n _=>?_,λb ob e1 _=>⟨ob,hm.keeps b ob e1⟩,λb xs e1=>?_,λb ob u e1=>?_,λb ps e1=>?_⟩ (λb u e1=>?_) I.bare (λb z=>absurd z (by simp))⟩
 . rw[au (λz=>by rw[z,hnew] at e1;cases e1)];exact n
 . rw[au (aR e1 na)];exact e1
 . rw[au (aR e1 na)];exact e1
 . exact⟨#[],by rw[au (aR e1 na),Array.append_empty];exact e1⟩
 . by_cases hb:b=e
   . subst hb
     rw[aD] at e1
     cases e1
     exact nO.ok ⟨_,_,he,rfl,rfl,rfl⟩
   . rw[au hb] at e1
     refine(I.hok b u e1).stay (λc v _ r=>hm.keeps c v r) (λc r=>?_) λc xs r=>?_
     . rw[au (aR r na)];exact r
     . rw[au (aR r na)];exact r
noncomputable def VD (X:Cx) (R:Addr->Addr->Hp->Prop):Prop:=∀(pins:List (Addr × Obj)) (σ:St) (H:Hp) (s:Shared) (a C dx:Addr),Inv X pins σ H s->X.s₀.heap.get? a=none->H a=some (MadeX a C dx)->R C dx (rem H a)->X.xe (.ref a) s
noncomputable def afv (C:Addr) (sp:Sp) (R:Addr->Addr->Hp->Prop) (t:TA):TS:=λ_ σ H=>t σ H λvs H1=>vs.length<=sizeLine/\∀a,H1 a=none->sp (.ref a::vs) (upd H1 a (nO a C)) (λv H2=>v=.non/\∃dx,H2 a=some (MadeX a C dx)/\R C dx (rem H2 a)) E0
theorem z8 {x:Str}{C f:Addr}{fd:FuncData}{ps:List Str}{sp:Sp}{k:Nat}{B nid zY:String}{iZ:List Value}{e:Expr}{es:List Expr}{p cpos pos:Pos}{t:TA}{R:Addr->Addr->Hp->Prop}(hex:X.ex=[])(Z:p7 X.base C f iZ nid)(FB:ExcBaseFacts B nid zY iZ)(hkp:W.keepIn X.K (.ref C)=true)
 (F:aH X.prog X.w X.K X.mg X.base aP k f fd ps sp) (hr:cP (k+1) X.A) (hcl:X.calm=true) (hg:Gl X x) (hm:X.mg x=some (.ref C)) (hb:Binds X.K fd ps []) (hx:VD X R)
 (ha:PA X (e::es) t) (hdb:(x == ("__debug__":Str))=false:=by decide) (he:starEach (e::es) X.env=(false,eval e X.env)::starEach es X.env:=by rfl) (hpl:(backTo cpos (starEach es X.env)).any (·.1)=false:=by rfl):
 PS X (.Raise (some (.Call (.Name x p) (e::es) [] cpos)) none pos) (afv C sp R t):=by
 intro pins s σ H D I h
 rw[arm_exec_Raise]
 have key:wpAny (model X.prog X.w) X.A (eval (.Call (.Name x p) (e::es) [] cpos) X.env) (λv s1=>∃(e C:Addr) (oe:Obj) (t:Value) (r:Array Value),v=.ref e/\s1.heap.get? e=some oe/\oe.cls=.ref C/\oe.data=.fields #[t,.none,.none,.none,.bool false,.none]/\
  (∃tl N nm q bs hdct sn sub ab col dd k0 k1 k2 k3 k5 nid,s1.heap.get? C=some (excClassObj nm q C N bs tl hdct sn sub ab col dd k0 k1 k2 k3 k5 nid)/\tl.contains (.type "BaseException")=true)/\X.xe (.ref e) s1) X.xe s:=by
  refine wpAny_Call_Name_kw (uM I hg hm ?_ hdb)
  refine W.callWith_K (h₀:=X.base) I.ok.mod.qz hkp (aO (ha cpos pins s σ H _ I h) λus s1 ⟨vs,H1,I1,r,hl,q⟩=>⟨I1.cN,?_⟩) he hpl
  obtain⟨hp,g,d,tk,os⟩:=s1
  refine afc FB (Z.keeps I1.bk) (λh' e' hm'=>?_) (by show us.length<=sizeLine;rw[<-r.length];exact hl)
  have l0:X.s₀.heap.get? e'=none:=I1.sE hex hm'.new
  obtain⟨na,I2⟩:=I1.afu hm'
  have hq:=q e' na
  have r2:Vals (V.ref e'::vs) (Value.ref e'::us):=.cons rfl r
  have hlen:(Value.ref e'::us++[]).length=ps.length:=by
   rw[List.append_nil,<-r2.length];exact F.len _ _ _ _ hq
  have hbd:=hb _ (Value.ref e'::us) I2.cN hlen
  rw[List.append_nil] at hbd
  refine wpAny_call (codeAny_mono (F.run _ X.stack _ _ ⟨Value.ref e'::us,[]⟩ (Value.ref e'::us) _ _ E0 (hr.make C us []) (I2.env0.make C us []) hbd r2 hq) λr' s' hq'=>?_)
  cases r' with
  |error e=>exact False.elim hq'
  |ok fl=>
   cases fl with
   |ret u=>
    obtain⟨v,H',I3,rv,ev,dx,wu,hR⟩:=I2.after hq'
    subst ev
    obtain⟨oe,t',he',hc',hd',afw⟩:=(I3.hok _ _ wu).1
    obtain⟨tl,N,nm,q,bs,hdct,sn,sub,ab,col,dd,k0,k1,k2,k3,k5,mN,oI,z1,z2,z3,z4,z5,z6⟩:=Z.keeps I3.bk
    exact⟨rv,⟨e',C,oe,t',#[],rfl,he',hc',afw,⟨tl,N,nm,q,bs,hdct,sn,sub,ab,col,dd,k0,k1,k2,k3,k5,nid,z1,z4.hasType FB.hasBase⟩,hx pins σ H' s' e' C dx I3 l0 wu hR⟩⟩
   |next=>exact False.elim hq'
   |brk=>exact False.elim hq'
   |cont=>exact False.elim hq'
 exact wpAny_bind (wpAny_standAt (afd (I.ok.hd hcl) (wpAny_bind (wpAny_mono key (λv s1 q=>wpAny_bind (wpAny_standAt (wpAny_pure q))) λ_ _ z=>z))))
theorem Inv.afx (I:Inv X pins σ H s)(hex:X.ex=[]){a:Addr}{φ:Heap->Prop}(l0:X.s₀.heap.get? a=none)(ha:H a=some (.ext φ)):Un (frs X.outer) [] X.H₀ (rem H a) X.s₀.heap s.heap/\cF X.prog X.w (rem H a) s.heap:=by
 have B:=I.base
 rw[hex] at B
 refine⟨⟨B.keep,B.slot,λb o e n hx=>?_,B.there,λb xs e=>?_,λb o u e=>?_,λb ps e=>?_⟩,λb u e=>?_⟩
 . rw[mC (λz=>by rw[z,l0] at e;cases e)];exact B.free b o e n hx
 . have:=B.tups b xs e
   rw[mC (λz=>by rw[z,ha] at this;cases this)];exact this
 . have:=B.jg b o u e
   rw[mC (λz=>by rw[z,ha] at this;cases this)];exact this
 . obtain⟨more,this⟩:=B.jh b ps e
   exact⟨more,by rw[mC (λz=>by rw[z,ha] at this;cases this)];exact this⟩
 . have nb:b≠a:=λz=>by rw[z,G9] at e;cases e
   rw[mC nb] at e
   refine(I.hok b u e).stay (λc v _ r=>r) (λc r=>?_) λc xs r=>?_
   . rw[mC (λz=>by rw[z,ha] at r;cases r)];exact r
   . rw[mC (λz=>by rw[z,ha] at r;cases r)];exact r
end
theorem G_ {H:Hp}{a b:Addr}(h:H b=none):rem H a b=none:=by
 unfold rem
 split
 . rfl
 . exact h
theorem Inv.rem {X:Cx}{pins:List (Addr × Obj)}{σ:St}{H:Hp}{s:Shared}(I:Inv X pins σ H s)(hex:X.ex=[]){a:Addr}{φ:Heap->Prop}(l0:X.s₀.heap.get? a=none)(ha:H a=some (.ext φ)):Inv X pins σ (L2.rem H a) s:=by
 obtain⟨un,hok⟩:=I.afx hex l0 ha
 refine⟨I.ok,I.os,I.bare,by rw[hex];exact un,I.loc,I.cell,G_ I.free,λx c e=>G_ (I.iC x c e),λp hp=>?_,hok,I.len⟩
 obtain⟨h1,h2,h3⟩:=I.pin p hp
 exact⟨h1,G_ h2,h3⟩
theorem z9 {P:Program}{w:World}{K:W.Frag}{mg:Str->Option Value}{base:Heap}{N:List Str}{qual:Str}{scope:Scope}{f:Addr}{cd:Value}{A:Around}{outer:List Env}{s₀:Shared}{H₀:Hp}{E:XK}:
 VD (lM (i_ P w) P w K mg base N qual scope f cd A outer s₀ H₀ E) (λC dx H=>E (.ref C) (some dx) H):=λpins σ H s a C dx I l0 wu hE=>by
 obtain⟨oe,t,he,hc,hdi,hda⟩:=(I.hok a _ wu).1
 have I':=I.rem rfl l0 wu
 show wpAny (model P w) _ (leaving _ _) _ _ _
 refine I'.afn rfl rfl rfl he hc hdi hda rfl l0 G9 λh2 T' t' G6 G7 un' hok'=>?_
 exact⟨a,T',C,some dx,_,rfl,t',l0,G6,G9,G7,I'.os,I'.bare,un',hok',hE⟩
section
variable {X:Cx}
noncomputable def VF (K:W.Frag) (ta:TE) (f:Str):TE:=λσ H Q=>ta σ H λx H1=>∃a C dx fs v,x=.ref a/\H1 a=some (jt a C (some dx))/\H1 dx=some (.xd fs)/\iU K C/\p8 K C f/\fs.lookup f=some v/\Q v H1
theorem afy {e:Expr}{ta:TE}{f:Str}{pos:Pos}(he:PE X e ta)(hb:attributeBase e f X.env (eval e X.env)=eval e X.env):PE X (.Attribute e f pos) (VF X.K ta f):=by
 intro pins s σ H Q I h
 refine Ph hb (aO (he pins s σ H _ I h) λu s1 ⟨x,H1,I1,rx,a,C,dx,fs,v,ex,ea,ed,Z,Y,l,q⟩=>?_)
 subst ex
 obtain rfl:u=Value.ref a:=rx
 obtain⟨o,ho,hc,hdx,vs,hda⟩:=(I1.hok a _ ea).1
 obtain⟨mA,hn,hr⟩:=I1.hok dx _ ed
 obtain⟨u',hu,ru⟩:=gA.some_of (v:=v) (o:=mA f) (by rw[<-l];exact hr f)
 obtain⟨hp,g,d,tk,os⟩:=s1
 exact afk I1.cN Z Y ho hc hda hdx hn.ns hu (W.handedOut_of (Pa ru)) ⟨v,H1,I1.tok _,ru,q⟩
theorem afz:eZ X (.builtin "isinstance") (λxs H Q=>∃a C dd c cv b,xs=[.ref a,c]/\RelV c cv/\H a=some (jt a C dd)/\iU X.K C/\W.kitOne X.K (.ref C) cv=some b/\Q (.bl b) H):=by
 intro pins s σ H xs us Q I r h
 obtain⟨a,C,dd,c,cv,b,rfl,rc,ha,Z,e,q⟩:=h
 obtain⟨u,c',rfl,ru,tQ⟩:=vals2 r
 cases ru
 have ec:c'=cv:=by
  cases c with
  |ref _=>exact Eq.trans (show c'=_ from tQ) (show cv=_ from rc).symm
  |ty _=>exact Eq.trans (show c'=_ from tQ) (show cv=_ from rc).symm
  |non=>exact Eq.trans (show c'=_ from tQ) (show cv=_ from rc).symm
  |bl _=>exact Eq.trans (show c'=_ from tQ) (show cv=_ from rc).symm
  |_=>
   obtain⟨t,rfl⟩:=rc
   unfold W.kitOne W.kitCls at e
   simp at e
 subst ec
 obtain⟨o,ho,hc,_⟩:=(I.hok a _ ha).1
 exact W.kia_one (Rh Z) I.cN ⟨o,ho,hc⟩ e (by intro z;cases z) λtk=>⟨.bl b,H,I.tok tk,rfl,q⟩
end
section
variable {X:Cx}{k:Nat}{f C:Addr}{fd:FuncData}{ps:List Str}{sp:Sp}{Ek:XK}{m:Str}{p pos apos:Pos}{e o:Expr}{es:List Expr}{t:TA}{te ta:TE}
theorem afA {pins:List (Addr × Obj)}{σ:St}{H:Hp}{s:Shared}{Q:VK}{us:List Value}{vs:List V}(F:aH X.prog X.w X.K X.mg X.base (i_ X.prog X.w) k f fd ps sp)(hr:cP k X.A)(hb:Binds X.K fd ps [])
 (I:Inv X pins σ H s) (r:Vals vs us) (h:sp vs H Q Ek):wpAny (model X.prog X.w) X.A (call (.ref f) us) (EP X pins σ Q) (wj X pins σ Ek) s:=by
 have hl:(us++[]).length=ps.length:=by rw[List.append_nil,<-r.length];exact F.len _ _ _ _ h
 have hbd:=hb s us I.cN hl
 rw[List.append_nil] at hbd
 refine wpAny_call (codeAny_mono (F.run X.A X.stack s H ⟨us,[]⟩ us vs Q Ek hr I.env0 hbd r h) λr' s' hq=>?_)
 cases r' with
 |error e=>exact⟨H,s,I,hq⟩
 |ok fl=>
  cases fl with
  |ret u=>exact I.after hq
  |next=>exact False.elim hq
  |brk=>exact False.elim hq
  |cont=>exact False.elim hq
theorem afB (he:PE X.mK e te):tO X Ek e te:=λpins s σ H Q I h=>
 wpAny_mono (he pins s σ H Q (I.wish _) h) (λ_ _ ⟨v,H',I',r,q⟩=>⟨v,H',I'.jE,r,q⟩) λ_ _ z=>False.elim z
noncomputable def PAD (X:Cx) (Ek:XK) (es:List Expr) (t:TA):Prop:=
 ∀(pos:Pos) (pins:List (Addr × Obj)) (s:Shared) (σ:St) (H:Hp) (Q:List V->Hp->Prop),Inv X pins σ H s->t σ H Q->wpAny (model X.prog X.w) X.A (spliced (backTo pos (starEach es X.env))) (AP X pins σ Q) (wj X pins σ Ek) s
theorem afC:PAD X Ek [] jG:=λ_ _ _ _ H Q I h=>Calls.spliced_nil ⟨[],H,I,.nil,h⟩
theorem VG (ha:tO X Ek e te)(hr:PAD X Ek es t)(hs:starEach (e::es) X.env=(false,eval e X.env)::starEach es X.env:=by rfl):PAD X Ek (e::es) (gF te t):=by
 intro pos pins s σ H Q I h
 rw[hs]
 show wpAny _ _ (spliced ((false,eval e X.env)::backTo pos (starEach es X.env))) _ _ s
 refine Calls.spliced_cons (aO (ha pins s σ H _ I h) λu s1 ⟨x,H1,I1,r1,q1⟩=>?_)
 exact aO (hr pos pins s1 σ H1 _ I1 q1) λus s2 ⟨xs,H2,I2,r2,q2⟩=>⟨x::xs,H2,I2,.cons r1 r2,q2⟩
theorem afD {x1:Nat}(h:PAD X Ek es t):tO X Ek (.Tuple es x1 pos) (xV t):=by
 intro pins s σ H Q I hq
 refine wpAny_Tuple_spliced (aO (h pos pins s σ H _ I hq) λus s1 ⟨xs,H1,I1,r,z,q⟩=>⟨by rw[<-r.length];exact z,?_⟩)
 have hf:H1 s1.heap.objs.size=none:=I1.hok.fresh (Nat.le_refl _)
 exact⟨.ref s1.heap.objs.size,upd H1 s1.heap.objs.size (.tup xs),I1.laid (t':=s1.toks) (λb u e=>Heap.get?_push_of_some _ e) (Nat.le_refl _) ⟨z,us,r,⟨_,Heap.get?_push_size _ rfl,rfl,_,rfl⟩⟩,rfl,q _ hf⟩
theorem VH {pl:Sem Bool}(he:PE X.mK o ta)(c:Cls X.K C)(hm:Meth X.K C m f)(F:aH X.prog X.w X.K X.mg X.base (i_ X.prog X.w) k f fd ps sp)(hr:cP k X.A)(hb:Binds X.K fd ps [])(ha:PA X.mK (e::es) t)
 (hst:starEach (e::es) X.env=(false,eval e X.env)::starEach es X.env:=by rfl) (hpl:(backTo pos (starEach es X.env)).any (·.1)=false:=by rfl)
 (ht:eval (.Call (.Attribute o m apos) (e::es) [] pos) X.env=(do
   let ov <-eval o X.env
   standAt apos.atName
   let(f,first) <-holding [ov] (getMethod ov m pl)
   callWith pos f first (backTo pos (starEach (e::es) X.env)) (backToKw pos (keywordEach [] X.env))):=by rfl):
 tO X Ek (.Call (.Attribute o m apos) (e::es) [] pos) (Pn C m sp [] Ek ta t):=by
 intro pins s σ H Q I h
 refine W.methodCall_KW (pl:=pl) (wpAny_mono (he pins s σ H _ (I.wish _) h) (λu s1 ⟨x,H1,I1,rx,a,dx,fs,ex,ea,l,q⟩=>?_) λ_ _ z=>False.elim z) ht
 subst ex
 obtain rfl:u=Value.ref a:=rx
 have I1:=I1.jE
 refine Pg I1 ea c hm l ?_
 refine W.callWith_K (first:=[.ref a]) (h₀:=X.base) I.ok.mod.qz hm.kp (wpAny_mono (ha pos pins s1 σ H1 _ (I1.wish _) q) (λus s2 ⟨vs,H2,I2,r,q2⟩=>⟨I2.jE.cN,?_⟩) λ_ _ z=>False.elim z) hst hpl
 exact afA (us:=.ref a::us) (vs:=.ref a::(vs++[])) F hr hb I2.jE (.cons rfl (by rw[List.append_nil];exact r)) q2
end
noncomputable def hk (l:List Key) (q:Key):Bool:=l.any λx=>decide (x=q)
noncomputable def stepK (l:List Key) (k:Key):List Key:=if hk l k=true then l else l++[k]
theorem VJ {prog:Program}{w:World}{h:Heap}{a:Addr}{S S':Key->Bool}{n n':Nat}(hS:h.SetOf (cQ prog w) a S n)(e:∀k,S k=S' k)(en:n=n'):h.SetOf (cQ prog w) a S' n':=by
 obtain rfl:S=S':=funext e
 subst en
 exact hS
noncomputable def fU (v:Nat->Key):Nat->List Key
 |0=>[]
 |i+1=>stepK (fU v i) (v i)
theorem VL (v:Nat->Key):∀i,(fU v i).length<=i
 |0=>Nat.le_refl _
 |i+1=>by
  have:=VL v i
  show(stepK (fU v i) (v i)).length<=i+1
  unfold stepK
  split
  . omega
  . rw[List.length_append];exact Nat.succ_le_succ this
theorem afE (l m:List Key)(q:Key):hk (l++m) q=(hk l q || hk m q):=List.any_append
theorem afF (l:List Key)(k q:Key):hk (stepK l k) q=(hk l q || decide (q=k)):=by
 unfold stepK
 split
 . rename_i h
   by_cases e:q=k
   . subst e;rw[h];rfl
   . rw[decide_eq_false e,Bool.or_false]
 . rw[afE]
   have:hk [k] q=decide (q=k):=by
    show(decide (k=q) || false)=_
    rw[Bool.or_false]
    by_cases e:q=k
    . subst e;rfl
    . rw[decide_eq_false e,decide_eq_false λz=>e z.symm]
   rw[this]
theorem afG (l:List Key)(k:Key):(stepK l k).length=if hk l k=true then l.length else l.length+1:=by
 unfold stepK
 split
 . rfl
 . rw[List.length_append];rfl
theorem afH {l:List Key}{q:Key}:hk l q=true↔q∈l:=by
 unfold hk
 rw[List.any_eq_true]
 constructor
 . rintro⟨x,h1,h2⟩
   rw[<-of_decide_eq_true h2];exact h1
 . intro h
   exact⟨q,h,decide_eq_true rfl⟩
theorem VN {v:Nat->Key}:∀{i:Nat},((List.range i).map v).Nodup->fU v i=(List.range i).map v
 |0,_=>rfl
 |i+1,h=>by
  rw[List.range_succ,List.map_append] at h ⊢
  obtain⟨h1,h2,h3⟩:=List.nodup_append.mp h
  show stepK (fU v i) (v i)=_
  rw[VN h1]
  unfold stepK
  rw[if_neg]
  . rfl
  . intro z
    exact h3 _ (afH.mp z) (v i) (List.mem_singleton.mpr rfl) rfl
section
variable {prog:Program}{w:World}{A:Around}{R:Result->Shared->Prop}{I:Addr}{fp wr:List Addr}{G:Array GenState->Array GenState->Prop}{n:Nat}{Pp:Nat->Value->Prop}{St':Nat->Shared->Prop}
theorem afI (W:WalksS prog w A.in1 I fp wr G n Pp St')(S:Addr)(sf:S ∉ fp)(v:Nat->Key)(hv:∀i u,Pp i u->(cQ prog w).is (v i) u=true/\u.scannable=true)(bd:n+1<scanBound):
 ∀(k i:Nat) (s:Shared),n - i=k->i<=n->St' i s->s.heap.SetOf (cQ prog w) S (λq=>hk (fU v i) q) (fU v i).length->
  (∀s',Moved (S::wr) G s s'->s'.heap.SetOf (cQ prog w) S (λq=>hk (fU v n) q) (fU v n).length->R (.ok (.ret .none)) s')->
  codeAny (model prog w) A (.builtin "set.update.loop" ⟨[.ref S,.ref I],[]⟩) R s:=by
 have sw:S ∉ wr:=λz=>sf (W.sub _ z)
 have up:∀b∈wr,b∈S::wr:=λb z=>List.mem_cons_of_mem _ z
 intro k
 induction k with
 |zero=>
  intro i s e1 e2 st so fin
  obtain rfl:i=n:=by omega
  refine codeAny_builtin PyProof.Rows.F.entry_set_update_loop ?_
  rw[Around.under_plainId PyProof.Rows.F.plain_set_update_loop _]
  show wpAny _ A.in1 (pyNext (.ref I) >>= _) _ _ s
  refine wpAny_bind (W.done s _ _ st λs' mv=>?_)
  show wpAny _ A.in1 (ret Value.none) _ _ s'
  obtain⟨o,es,ep,t,ho,more⟩:=so
  exact wpAny_pure (fin s' (mv.mono up) ⟨o,es,ep,t,mv.heap S _ sw ho,more⟩)
 |succ k ih=>
  intro i s e1 e2 st so fin
  have lt:i<n:=by omega
  refine codeAny_builtin PyProof.Rows.F.entry_set_update_loop ?_
  rw[Around.under_plainId PyProof.Rows.F.plain_set_update_loop _]
  show wpAny _ A.in1 (pyNext (.ref I) >>= _) _ _ s
  refine wpAny_bind (W.item i s _ _ lt st λu s' hP st' mv=>?_)
  obtain⟨is,sc⟩:=hv i u hP
  have so':s'.heap.SetOf (cQ prog w) S (λq=>hk (fU v i) q) (fU v i).length:=by
   obtain⟨o,es,ep,tb,ho,more⟩:=so
   exact⟨o,es,ep,tb,mv.heap S _ sw ho,more⟩
  show wpAny _ A.in1 (holding [u] (setAdd S u) >>= _) _ _ s'
  refine wpAny_bind (wpAny_holding ?_)
  unfold setAdd
  refine wpAny_holding (wpAny_bind ((cQ prog w).pyHash (k:=v i) is ?_))
  have room:(fU v i).length+1<scanBound:=by have:=VL v i;omega
  refine wpAny_setAddHashed_of (knd:=cQ prog w) (s:={ s' with toks:=s'.toks+1 }) is sc so' room λh' sb so2=>?_
  have so3:h'.SetOf (cQ prog w) S (λq=>hk (fU v (i+1)) q) (fU v (i+1)).length:=
   VJ so2 (λq=>(afF _ _ _).symm) (afG _ _).symm
  refine wpAny_pure ⟨plainId_quiet PyProof.Rows.F.plain_set_update_loop _,ih (i+1) _ (by omega) lt (W.frame _ s' _ _ st' (Nat.le_succ _) λb hb o e=>?_) so3 λs'' mv' so4=>?_⟩
  . rw[sb.2 b (λz:b=S=>sf (by rw[<-z];exact hb))];exact e
  . refine fin s'' (Moved.trans W.gtrans ((mv.mono up).then_heap (Nat.le_succ _) λb o hb e=>?_) mv') so4
    rw[sb.2 b (λz:b=S=>hb (by rw[z];exact List.mem_cons_self))];exact e
end
theorem afM:LawfulBEq Key where
 eq_of_beq:=by
  intro a b h
  cases a <;> cases b
  . exact congrArg Sum.inl (eq_of_beq (α:=Int) h)
  . cases h
  . cases h
  . exact congrArg Sum.inr (eq_of_beq (α:=Str) h)
 rfl:=by
  intro a
  cases a
  . exact BEq.rfl (α:=Int)
  . exact BEq.rfl (α:=Str)
theorem afN {prog:Program}{w:World}{A:Around}{E:Value->Shared->Prop}{s:Shared}{l:Addr}{its:Array Value}{v:Nat->Key}{Q:Value->Shared->Prop}(ah:A.handled=none)(il:s.heap.IsList l its)
 (hv:∀(i:Nat) (u:Value),its[i]? =some u->(cQ prog w).is (v i) u=true/\u.scannable=true) (bd:its.size+1<scanBound)
 (q:∀(h':Heap) (tk:Nat),h'.SetOf (cQ prog w) s.heap.objs.size (λk=>hk (fU v its.size) k) (fU v its.size).length->(∀b o,b<s.heap.objs.size->s.heap.get? b=some o->h'.get? b=some o)->Q (.ref s.heap.objs.size) { s with heap:=h',toks:=tk }):
 wpAny (model prog w) A (call (.type "set") [.ref l]) Q E s:=by
 obtain⟨c,tl,mro⟩:=PySem.F.called_set.mro
 have made:=PySem.F.called_set.made
 have sub:=PySem.F.called_set.sub
 refine wpAny_call (codeAny_of_tree ?_)
 show wpAny _ _ (callAny (.type "set") _) _ _ _
 refine wpAny_pure ⟨Code.quiet_builtin _ (by decide +kernel),codeAny_builtin PySem.F.entry_type_call ?_⟩
 rw[Around.under_plain (weight_type_call_type "set" [.ref l] []) rfl]
 have n1:=PySem.F.called_set.notType
 have n2:=PySem.F.called_set.canCreate
 have ct:=PySem.F.typeCall_set_1 (.ref l)
 repeat (any_goals (first|assumption|wp_step))
 refine codeAny_mono (code_set_new_1 (.ref l) (E:=E) (Q₁:=λob s1=>∃ld:Bool,ob=.ref s.heap.objs.size/\s1={ s with heap:=s.heap.push { cls:=.type "set",dict:=none,data:=.set #[] 0 (.fresh 0 0 ld) } }) λld=>⟨ld,rfl,rfl⟩) λr s1 hr=>?_
 cases r with
 |error e=>exact hr
 |ok fl=>
  cases fl with
  |ret ob=>
   obtain⟨ld,rfl,rfl⟩:=hr
   have gS:(s.heap.push { cls:=.type "set",dict:=none,data:=.set #[] 0 (.fresh 0 0 ld) }).get? s.heap.objs.size=some { cls:=.type "set",dict:=none,data:=.set #[] 0 (.fresh 0 0 ld) }:=Heap.get?_push_size _ rfl
   have ty:Shared.TypeIs { s with heap:=s.heap.push { cls:=.type "set",dict:=none,data:=.set #[] 0 (.fresh 0 0 ld) } } (.ref s.heap.objs.size) "set":=⟨_,gS,rfl⟩
   have li:=PySem.F.called_set.init.lookup
   have bi:=PySem.F.called_set.init.bind (.ref s.heap.objs.size)
   repeat (any_goals (first|assumption|wp_step))
   refine codeAny_mono (codeAny_call_builtin (R:=wants (λr s2=>r=.none/\∃h' tk,s2={ s with heap:=h',toks:=tk }/\h'.SetOf (cQ prog w) s.heap.objs.size (λk=>hk (fU v its.size) k) (fU v its.size).length/\
    (∀b o,b<s.heap.objs.size->s.heap.get? b=some o->h'.get? b=some o)) E) PySem.F.called_set.init.plain PySem.F.entry_set_init (check_set_init_1 ty ?_)) λr2 s2 hr2=>?_
   . obtain⟨ol,hol,Hf,nl,dl⟩:=il
     obtain⟨oc,od,oda,osl⟩:=ol
     have Hf:oc=.type "list":=Hf
     have dl:oda=.seq its nl:=dl
     subst Hf
     subst dl
     have hol':(s.heap.push { cls:=.type "set",dict:=none,data:=.set #[] 0 (.fresh 0 0 ld) }).get? l=some { cls:=.type "list",dict:=od,data:=.seq its nl,slots:=osl }:=Heap.get?_push_of_some _ hol
     have VP:=PySem.F.sub_list_set
     have sl2:=PySem.F.sub_list_frozenset
     have nd:(Value.type "list" == Value.type "dict")=false:=by decide
     have VR:(s.heap.push { cls:=.type "set",dict:=none,data:=.set #[] 0 (.fresh 0 0 ld) }).IsList l its:=⟨_,hol',rfl,nl,rfl⟩
     unfold Builtin.«set.__init__» noKeywords Builtin.Frozenset.updateFrom
     generalize hPI:pyIter=PI
     wp_walk
     subst hPI
     refine wpAny_pyIter_list VR ?_
     refine wpAny_bind (wpAny_runValue ?_)
     have V0:l<s.heap.objs.size:=Heap.lt_size hol
     have ah3:A.in1.in1.in1.handled=none:=by simp[ah]
     have neI:l≠(s.heap.push { cls:=.type "set",dict:=none,data:=.set #[] 0 (.fresh 0 0 ld) }).objs.size:=by rw[Heap.size_push];exact Nat.ne_of_lt (Nat.lt_succ_of_lt V0)
     have nin:s.heap.objs.size ∉ [(s.heap.push { cls:=.type "set",dict:=none,data:=.set #[] 0 (.fresh 0 0 ld) }).objs.size,l]:=by
      rw[Heap.size_push];simp only[List.mem_cons,List.mem_singleton,List.not_mem_nil,or_false,not_or]
      exact⟨Nat.ne_of_lt (Nat.lt_succ_self _),Nat.ne_of_gt V0⟩
     refine afI ((Walks.list ah3 _ l neI its).toS) s.heap.objs.size nin v hv bd (its.size - 0) 0 _ (by omega) (Nat.zero_le _) ⟨⟨_,Heap.get?_push_size _ rfl,rfl,rfl⟩,(VR.push _)⟩ ?sA ?sB
     case sA=>
      have g2:((s.heap.push { cls:=.type "set",dict:=none,data:=.set #[] 0 (.fresh 0 0 ld) }).push { cls:=.type "list_iterator",data:=.fields #[.ref l,.int 0 0] }).get? s.heap.objs.size=some { cls:=.type "set",dict:=none,data:=.set #[] 0 (.fresh 0 0 ld) }:=Heap.get?_push_of_some _ gS
      haveI:=afM
      refine VJ (Obj.SetObjOf.setOf (knd:=cQ prog w) (setObjOf_fresh ld) g2 (by unfold scanBound;omega)) (λ_=>rfl) rfl
     case sB=>
      intro s' mv so
      obtain⟨h',g',d',tk',os'⟩:=s'
      have eg:g'=s.gens:=mv.gens
      have ed:d'=s.drawn:=mv.drawn
      have eo:os'=s.os:=mv.os
      subst eg
      subst ed
      subst eo
      show wpAny _ _ _ _ _ _
      refine wpAny_pure ?_
      show wpAny _ _ (ret Value.none) _ _ _
      refine wpAny_pure ⟨rfl,h',tk',rfl,so,λb o hb e=>?_⟩
      have b1:b≠s.heap.objs.size:=Nat.ne_of_lt hb
      have b2:b≠(s.heap.push { cls:=.type "set",dict:=none,data:=.set #[] 0 (.fresh 0 0 ld) }).objs.size:=by rw[Heap.size_push];exact Nat.ne_of_lt (Nat.lt_succ_of_lt hb)
      exact mv.heap b o (by simp only[List.mem_cons,List.mem_singleton,List.not_mem_nil,or_false,not_or];exact⟨b1,b2⟩) (Heap.get?_push_of_some _ (Heap.get?_push_of_some _ e))
   . cases r2 with
     |error e=>exact hr2
     |ok fl2=>
      cases fl2 with
      |ret r=>
       obtain⟨rfl,h',tk,rfl,so,kp⟩:=hr2
       repeat (any_goals (first|assumption|wp_step))
       exact q _ _ so kp
      |_=>exact hr2.elim
  |_=>exact hr.elim
noncomputable def Hg (P:Program) (w:World) (a:Addr) (n:Nat):HO:=.ext λh=>∃S,h.SetOf (cQ P w) a S n
section
variable {X:Cx}
theorem afR (hc:X.calm=true):eZ X (.type "set") (λxs H Q=>∃(a:Addr) (ss:List Str),xs=[.ref a]/\aq X.K H a (ss.map V.str)/\ss.length<=60/\∀p,H p=none->Q (.ref p) (upd H p (Hg X.prog X.w p (fU (λi=>Sum.inr (ss.getD i "")) ss.length).length))):=by
 intro pins s σ H xs us Q I r h
 obtain⟨a,ss,rfl,hq,V1,q⟩:=h
 obtain⟨u,rfl,ru⟩:=vals1 r
 cases ru
 obtain⟨its,rv,pl,hz⟩:=I.list hq
 have hl:its.length=ss.length:=by rw[<-rv.length,List.length_map]
 have hsz:its.toArray.size=ss.length:=by rw[List.size_toArray];exact hl
 refine afN (v:=λi=>Sum.inr (ss.getD i "")) (I.ok.hd hc) pl.isList (λi u hu=>?_) (by rw[hsz];unfold scanBound;omega) λh' tk so kp=>?_
 . have hi:i<ss.length:=by
    have:=(Array.getElem?_eq_some_iff.mp hu).1
    rw[hsz] at this;exact this
   have h1:(ss.map V.str)[i]? =some (V.str (ss.getD i "")):=by
    rw[List.getElem?_map,List.getD_eq_getElem?_getD,List.getElem?_eq_getElem hi];rfl
   obtain⟨u',e1,t,e2⟩:=rv.get h1
   have:u=u':=by
    have hu':its.toArray[i]? =some u:=hu
    rw[List.getElem?_toArray,e1] at hu'
    exact(Option.some.inj hu').symm
   subst this
   subst e2
   exact⟨Oh _ t,rfl⟩
 . rw[hsz] at so
   obtain⟨o,es,ep,t,ho,more⟩:=so
   refine⟨.ref s.heap.objs.size,_,I.laid (h':=h') (t':=tk) (λb u e=>kp b u (Heap.lt_size e) e) (Nat.le_refl _) ?_,rfl,q _ (I.hok.fresh (Nat.le_refl _))⟩
   exact⟨⟨_,o,es,ep,t,ho,more⟩,⟨o,ho⟩,λh1 h2 ⟨S,o',es',ep',t',ho',more'⟩ k=>⟨S,o',es',ep',t',k _ ho',more'⟩⟩
theorem afS:eZ X (.builtin "len") (λxs H Q=>∃a n,xs=[.ref a]/\H a=some (Hg X.prog X.w a n)/\Q (.int n) H):=by
 intro pins s σ H xs us Q I r h
 obtain⟨a,n,rfl,ha,q⟩:=h
 obtain⟨u,rfl,ru⟩:=vals1 r
 cases ru
 obtain⟨S,o,es,ep,t,ho,hex,hd,hel,hmem,hb,hf,hn⟩:=(I.hok a _ ha).1
 refine call_len_set ho hex hd hf (by unfold scanBound at hb;omega) ⟨.int n,H,I.tok _,⟨_,by rw[hn]⟩,q⟩
end
end L2
namespace Pb
open PySem L2 PyProof.Rows
theorem _root_.L2.cg.tab {P:Addr}{lp:Pos}{ql:Str}{H:Hp}(h:cg P lp ql H):∃ps,H P=some (.dI ps):=by
 rcases h with e|⟨c,e,_⟩ <;> exact⟨_,e⟩
theorem _root_.L2.cg.keep {P:Addr}{lp:Pos}{ql:Str}{H H':Hp}(h:cg P lp ql H)(k:∀c o,(∀xs,o≠ .lst xs)->H c=some o->H' c=some o):cg P lp ql H':=by
 rcases h with e|⟨c,e,f⟩
 . exact .inl (k _ _ (by intro xs z;cases z) e)
 . exact .inr ⟨c,k _ _ (by intro xs z;cases z) e,k _ _ (by intro xs z;cases z) f⟩
theorem _root_.L2.cg.same {P:Addr}{lp:Pos}{ql:Str}{H H':Hp}(h:cg P lp ql H)(s:Same H H'):cg P lp ql H':=h.keep λc o _ e=>s c o e
theorem _root_.L2.cg.sb {P b:Addr}{lp:Pos}{ql:Str}{H H':Hp}{l:List V}(h:cg P lp ql H)(hb:H b=some (.lst l))(s:SB b H H'):cg P lp ql H':=
 h.keep λc o ho e=>s c o (jV e hb (ho l)) e
noncomputable def afT (st:Stmt):Pos:=match bG st with
 | .Assign _ (.Call _ [.Call _ _ [⟨_,.Lambda _ _ _ lp,_⟩] _] _ _) _::_=>lp
 |_=>⟨0,0,0,0⟩
noncomputable abbrev d9:Pos:=afT (top 11)
noncomputable abbrev d_:Str:=("sorted_fields":Str)++".<locals>."++"<lambda>"
noncomputable abbrev eE (Pt:Addr) (H H':Hp):Prop:=Kp (λc=>c=Pt) H H'
theorem eE.tu {Pt:Addr}{H H':Hp}{lp:Pos}{ql:Str}(x:eE Pt H H')(hT:cg Pt lp ql H):Tu H H':=λc xs h=>by
 obtain⟨ps,hP⟩:=hT.tab
 exact x c _ (jV h hP (by intro z;cases z)) h
noncomputable def V2 (K:W.Frag) (Pt:Addr):Sp:=λvs H Q E=>∃l qs,vs=[.ref l]/\aq K H l (cD qs)/\j5 H qs/\qs.length<=13/\cg Pt d9 d_ H/\(nms qs).Nodup/\
 (∀t bD H',eE Pt H H'->cg Pt d9 d_ H'->H' t=some (.tup (cD bD))->bD.Perm qs->(nms bD).Pairwise sle->Q (.ref t) H')
theorem afU {qs:List Qd}{i:Nat}{v:V}(h:(cD qs)[i]? =some v):∃q,qs[i]? =some q/\q.1=v:=by
 have h:(qs.map (·.1))[i]? =some v:=h
 rw[List.getElem?_map] at h
 cases e:qs[i]? with
 |none=>rw[e] at h;cases h
 |some q=>rw[e] at h;exact⟨q,rfl,Option.some.inj h⟩
theorem wz (qs:List Qd):(cD qs).length=qs.length:=List.length_map _
theorem wA (qs:List Qd):(nms qs).length=qs.length:=List.length_map _
noncomputable def q0:Qd:=(.non,"",false)
theorem afV (qs:List Qd)(p:List Nat):cD (p.map λi=>qs.getD i q0)=p.map λi=>(cD qs).getD i .non:=by
 unfold cD
 rw[List.map_map]
 refine List.map_congr_left λi _=>?_
 show(qs.getD i q0).1=_
 rw[List.getD_eq_getElem?_getD,List.getD_eq_getElem?_getD,List.getElem?_map]
 cases qs[i]? <;> rfl
theorem afW (qs:List Qd){p:List Nat}(h:p.Perm (List.range qs.length)):(p.map λi=>qs.getD i q0).Perm qs:=by
 have:=h.map λi=>qs.getD i q0
 rw[QZ] at this
 exact this
structure Dm (K:W.Frag) (x qual:Str) (ps:List Str) (st:Stmt) (f:Addr) (fd:FuncData):Prop where
 F:jZ K x qual st f fd
 b:Binds K fd ps []
noncomputable def bw (i j:Nat):Stmt:=match top i with
 | .ClassDef _ _ _ body _ _ _ _ _ _ _=>body.getD j (.Pass ⟨0,0,0,0⟩)
 |_=>.Pass ⟨0,0,0,0⟩
noncomputable def V3:Sp:=λvs H Q _=>∃u,vs=[u]/\((u=.non/\∀H',Same H H'->Q (.bl false) H')\/∃pl,jO H u pl/\∀H',Same H H'->Q (.bl pl) H')
noncomputable def V4 (K:W.Frag):Sp:=λvs H Q _=>∃t qs x,vs=[.ref t,.str x]/\aN K H t (cD qs)/\j5 H qs/\
 (∀q∈qs,q.2.1=x->∀c u,q.1=.ref c->H c=some (.tup [.str x,u])->jO H u q.2.2->Q u H)/\(x ∉ nms qs->Q .non H)
noncomputable def V5 (K:W.Frag) (Pt:Addr):Sp:=λvs H Q E=>∃l qs key,vs=[.str key,.str "",.ref l]/\aq K H l (cD qs)/\j5 H qs/\qs.length<=13/\cg Pt d9 d_ H/\(nms qs).Nodup/\(∃q∈qs,q.2.1=key/\q.2.2=true)/\key≠""/\
 (∀r t bD H',eE Pt H H'->cg Pt d9 d_ H'->H' r=some (.tup [.str "rows",.str key,.str "",.ref t])->H' t=some (.tup (cD bD))->bD.Perm qs->(nms bD).Pairwise sle->Q (.ref r) H')
variable {P:Program}{w:World}{K:W.Frag}{mg:Str->Option Value}{base:Heap}
theorem V6:b_ ["pairs","fields","number","name"] ["pairs"] (aM (top 11)):=cI
theorem afX {Pt c:Addr}(T:Tb mg)(qd:Dn K mg "sorted_fields" ["pairs"] (top 11) Hh z_)(hcode:z_.code=.ref c)(hCd:W.CodeHd base c Pt)(vC:BM mg base):aH P w K mg base aP (8) Hh z_ ["pairs"] (V2 K Pt):=by
 refine qd.F.okL hcode V6 (λvs H Q E h=>?_) (λA outer s H vs Q E hr h=>?_)
 . obtain⟨l,qs,rfl,_⟩:=h
   rfl
 obtain⟨l,qs,rfl,hl,hp,h13,hT,hnd,q1⟩:=h
 have nd:=V6.nd
 have hu:=eO hr
 refine⟨_,(aB (aW (i:=1) nd rfl (Or.inl rfl) (qO aa6 (by rfl) T.adl boot_tuple (aj (acU (te:=(jF (u0 K) (fW 0) (tC (.int 0)))) (x:="pair") (N':=["","","",""]) rfl T.DY boot_sorted hr rfl rfl hCd vC (su.of (N:=["pairs","fields","number","name"]) (sc:=aM (top 11)) rfl rfl rfl rfl rfl (by decide +kernel)) rfl (λ_ _ _ _ _=>rfl) (pv 0) (λ_ _ _ _ _=>(aJ bV (pv 0) ak (λ_ _=>rfl)))) ao)))
  (aB (fY PassesOwn.never rfl (Oz rfl T.vM (aj ak (aj (bN gG (by rfl) T.dY PySem.boot_len (aj (pv 1) ao)) ao))) (cG (i:=2) nd rfl (Or.inl rfl)) (aB (aW (i:=3) nd rfl (Or.inl rfl) (aJ bV (aJ bV (pv 1) (pv 2) (λ_ _=>rfl)) ak (λ_ _=>rfl)))
  (aC (aV (aU bK (pv 3) (aJ bV (aJ bV (pv 1) (aL mQ (pv 2) ak) (λ_ _=>rfl)) ak (λ_ _=>rfl)) (aQ _)) (aC bZ) aZ))))
  (aC (bf (pv 1))))),?_⟩
 refine⟨_,rfl,l,cD qs,rfl,hl,by rw[wz];omega,hT,λc' H2 hL2 mono=>?_⟩
 have nj:eE Pt H H2:=λcc o hc e=>mono cc o hc e
 have hp2:j5 H2 qs:=hp.mono (nj.tu hT)
 refine⟨λks H3=>H3=H2/\ks.length<=qs.length/\ks=((nms qs).map V.str).take ks.length,⟨rfl,Nat.zero_le _,rfl⟩,λks H3 hw=>by rw[hw.1];exact hL2,?_,?_⟩
 . rintro ks H3 yv ⟨rfl,hle,hks⟩ hy
   obtain⟨qq,hq,rfl⟩:=afU hy
   obtain⟨cc,u,ec,hc,hk⟩:=hp2 qq (List.mem_of_getElem? hq)
   obtain⟨qv,qn,qb⟩:=qq
   have ec:qv=.ref cc:=ec
   subst ec
   have hlt:ks.length<qs.length:=(List.getElem?_eq_some_iff.mp hq).1
   refine⟨_,rfl,cc,_,_,_,rfl,rfl,aN.of hc,rfl,rfl,by rw[List.length_append];exact hlt,?_⟩
   rw[List.length_append]
   show _=List.take (ks.length+1) _
   rw[List.take_succ,<-hks,List.getElem?_map]
   have:(nms qs)[ks.length]? =some qn:=by
    show(qs.map (·.2.1))[ks.length]? =_
    rw[List.getElem?_map,hq];rfl
   rw[this]
   rfl
 . rintro ks H3 ⟨rfl,_,hks⟩ hlen
   have hks:ks=(nms qs).map V.str:=by
    rw[hks,hlen,wz,List.take_of_length_le (by rw[List.length_map,wA];exact Nat.le_refl _)]
   refine⟨nms qs,hks,λp hpm hs D hD=>?_⟩
   rw[wz] at hpm
   rw[<-afV]
   have hperm:=afW qs hpm
   have V7:(nms (p.map λi=>qs.getD i q0)).Pairwise sle:=by
    show((p.map λi=>qs.getD i q0).map (·.2.1)).Pairwise sle
    rw[List.map_map,List.pairwise_map]
    rw[List.pairwise_map] at hs
    refine List.Pairwise.imp_of_mem (λ{i j} hi hj h=>?_) hs
    have ge:∀i∈p,((nms qs).map dg).getD i []=dg (qs.getD i q0).2.1:=λi hi=>by
     have hi':i<qs.length:=by
      have:=hpm.mem_iff.mp hi
      simpa using this
     unfold nms
     rw[List.getD_eq_getElem?_getD,List.getD_eq_getElem?_getD,List.getElem?_map,List.getElem?_map,List.getElem?_eq_getElem hi']
     rfl
    rw[ge i hi,ge j hj] at h
    exact h
   generalize (p.map λi=>qs.getD i q0)=bD at hperm V7
   have hnd':(nms bD).Nodup:=(hperm.map _).nodup_iff.mpr hnd
   have hp2:j5 H3 bD:=λq hq=>hp2 q (hperm.mem_iff.mp hq)
   have hl':bD.length=qs.length:=hperm.length_eq
   refine⟨D,cD bD,rfl,.inl ⟨aq.of aD,λt ht=>?_⟩⟩
   have sD:Same H3 (upd H3 D (.lst (cD bD))):=Same.new hD
   have s5:Same H3 (upd (upd H3 D (.lst (cD bD))) t (.tup (cD bD))):=sD.trans (Same.new ht)
   have V8:eE Pt H (upd (upd H3 D (.lst (cD bD))) t (.tup (cD bD))):=nj.trans (Kp.of s5)
   have hT5:cg Pt d9 d_ (upd (upd H3 D (.lst (cD bD))) t (.tup (cD bD))):=.inr ⟨c',hL2.mono λb o _ e=>s5 _ _ e⟩
   have wB:upd (upd H3 D (.lst (cD bD))) t (.tup (cD bD)) t=some (.tup (cD bD)):=aD
   have j_:j5 (upd (upd H3 D (.lst (cD bD))) t (.tup (cD bD))) bD:=hp2.mono (Tu.of s5)
   generalize upd (upd H3 D (.lst (cD bD))) t (.tup (cD bD))=H5 at V8 hT5 wB j_
   have V9:∀j,j<bD.length->∃cc u,(cD bD)[j]? =some (.ref cc)/\H5 cc=some (.tup [.str ((nms bD).getD j ""),u]):=λj hj=>by
    obtain⟨cc,u,ec,hc,_⟩:=j_ bD[j] (List.getElem_mem hj)
    refine⟨cc,u,?_,?_⟩
    . show(bD.map (·.1))[j]? =_
      rw[List.getElem?_map,List.getElem?_eq_getElem hj]
      exact congrArg some ec
    . have e:(nms bD).getD j ""=bD[j].2.1:=by
       unfold nms
       rw[List.getD_eq_getElem?_getD,List.getElem?_map,List.getElem?_eq_getElem hj]
       rfl
      rw[e];exact hc
   refine⟨_,rfl,t,_,rfl,.inr (aN.of wB),_,_,rfl,⟨by decide,by decide,by omega,by rw[wz];omega⟩,uT (lo:=1) (n:=(((cD bD).length:Int) - 1).toNat) (λk σ H'=>H'=H5/\∃y z,σ=[some (.ref l),some (.ref t),y,z]) ⟨rfl,_,_,rfl⟩ ?_ ?_⟩
   . rintro k σ H' hk ⟨rfl,y,z,rfl⟩
     rw[wz] at hk
     obtain⟨c1,u1,a1,b1⟩:=V9 (k+1) (by omega)
     obtain⟨c2,u2,a2,b2⟩:=V9 k (by omega)
     have e1:dj (cD bD) ((1:Int)+(k:Int))=some (.ref c1):=by
      have:=iG (j:=k+1) a1
      rw[show((1:Int)+(k:Int))=((k+1:Nat):Int) by omega];exact this
     have e2:dj (cD bD) ((1:Int)+(k:Int) - 1)=some (.ref c2):=by
      have:=iG (j:=k) a2
      rw[show((1:Int)+(k:Int) - 1)=((k:Nat):Int) by omega];exact this
     refine⟨_,rfl,_,rfl,t,_,_,_,rfl,rfl,aN.of wB,e1,c1,_,_,_,rfl,rfl,aN.of b1,rfl,?_⟩
     refine⟨_,rfl,_,rfl,_,rfl,_,_,rfl,rfl,t,_,_,_,rfl,rfl,aN.of wB,e2,c2,_,_,_,rfl,rfl,aN.of b2,rfl,rfl,_,rfl,cu (λcc=>?_) λcc=>⟨rfl,_,_,rfl⟩⟩
     have e:(nms bD).getD (k+1) ""=(nms bD).getD k "":=by
      have:=of_decide_eq_true cc
      injection this
     have hl1:k+1<(nms bD).length:=by rw[wA];omega
     have hl2:k<(nms bD).length:=by rw[wA];omega
     rw[List.getD_eq_getElem?_getD,List.getD_eq_getElem?_getD,List.getElem?_eq_getElem hl1,List.getElem?_eq_getElem hl2] at e
     have e:(nms bD)[k+1]=(nms bD)[k]:=e
     exact absurd e.symm (List.pairwise_iff_getElem.mp hnd' k (k+1) hl2 hl1 (by omega))
   . rintro σ H' ⟨rfl,y,z,rfl⟩
     exact⟨_,rfl,q1 t bD _ V8 hT5 wB hperm V7⟩
theorem Wa:b_ ["kind"] ["kind"] (aM (top 9)):=cI
theorem afZ (T:Tb mg)(kO:Dn K mg "is_plain" ["kind"] (top 9) Hi Hj):aH P w K mg base aP (1) Hi Hj ["kind"] (V3):=by
 refine kO.F.ok Wa (λvs H Q E h=>?_) (λcdv A outer s H vs Q E hr h=>?_)
 . obtain⟨u,rfl,_⟩:=h
   rfl
 obtain⟨u,rfl,h⟩:=h
 have nd:=Wa.nd
 have hu:=eO hr
 refine⟨_,(aC (bf (aad (qJ (Rj (n:=0) hu) (pv 0) (dR (aj bJ ao)) (aQ _)) (oG (qJ (Rj (n:=0) hu) (pv 0) (dR (aj bJ ao)) (aQ _)))))),?_⟩
 refine⟨_,rfl,dF,λt ht=>?_⟩
 have s1:Same H (upd H t (.tup [.str "number"])):=Same.new ht
 rcases h with⟨rfl,q⟩|⟨pl,⟨a,f,rest,rfl,ha,hy,hn,_⟩,q⟩
 . refine .inl ⟨rfl,⟨t,_,rfl,aN.of aD⟩,_,rfl,bU ?_⟩
   refine⟨_,rfl,dF,λt2 nM=>?_⟩
   exact .inl ⟨rfl,⟨t2,_,rfl,aN.of aD⟩,q _ (s1.trans (Same.new nM))⟩
 . refine .inr ⟨a,t,_,_,_,rfl,rfl,str1,.inr ⟨aN.of (s1 _ _ ha),aN.of aD,?_⟩⟩
   rw[zN]
   refine⟨_,rfl,cu (λc=>?_) λc=>?_⟩
   . obtain⟨c1,c2⟩:=Bool.and_eq_true_iff.mp c
     have c1:=of_decide_eq_true c1
     cases pl with
     |true=>exact q _ s1
     |false=>exact absurd c1 (hn rfl).1
   refine⟨_,rfl,dF,λt2 nM=>?_⟩
   have s2:=s1.trans (Same.new (o:=.tup [.str "word"]) nM)
   refine .inr ⟨a,t2,_,_,_,rfl,rfl,str1,.inr ⟨aN.of (s2 _ _ ha),aN.of aD,?_⟩⟩
   rw[zN]
   have e:(decide (f="word") && decide (rest=[]))=pl:=by
    cases pl with
    |true=>
     obtain⟨r0,r1⟩:=hy rfl
     rcases r1 with z|z
     . exact absurd (by rw[decide_eq_true z,decide_eq_true r0];rfl) c
     . rw[decide_eq_true z,decide_eq_true r0];rfl
    |false=>rw[decide_eq_false (hn rfl).2];rfl
   rw[e]
   exact q _ s2
theorem Wb:b_ ["fields","name","pair"] ["fields","name"] (aM (top 10)):=cI
theorem af0 (T:Tb mg)(kW:Dn K mg "kind_at" ["fields","name"] (top 10) Hl Ho):aH P w K mg base aP (1) Hl Ho ["fields","name"] (V4 K):=by
 refine kW.F.ok Wb (λvs H Q E h=>?_) (λcdv A outer s H vs Q E hr h=>?_)
 . obtain⟨b,qs,x,rfl,_⟩:=h
   rfl
 obtain⟨b,qs,x,rfl,hb,hp,q1,q2⟩:=h
 have nd:=Wb.nd
 refine⟨_,(aB (fY PassesOwn.never rfl (uQ (pv 0)) (cG (i:=2) nd rfl (Or.inl rfl)) (aC (aV (aU bK (aJ bV (pv 2) ak (λ_ _=>rfl)) (pv 1) (aQ _)) (aC (bf (aJ bV (pv 2) ak (λ_ _=>rfl)))) aZ)))
  (aC (bf iQ))),?_⟩
 refine⟨_,rfl,b,rfl,⟨_,hb⟩,xQ (xs:=cD qs) (λi σ H'=>H'=H/\(∃z,σ=[some (.ref b),some (.str x),z])/\∀j,j<i->(nms qs)[j]? ≠some x) ⟨rfl,⟨_,rfl⟩,λj hj=>absurd hj (by omega)⟩ ?_ ?_ ?_⟩
 . rintro i σ H' _ ⟨rfl,_⟩
   exact hb
 . rintro i v σ H' hv ⟨rfl,⟨z,rfl⟩,hno⟩
   obtain⟨qq,hq,rfl⟩:∃qq,qs[i]? =some qq/\qq.1=v:=by
    have hv:(qs.map (·.1))[i]? =some v:=hv
    rw[List.getElem?_map] at hv
    cases e:qs[i]? with
    |none=>rw[e] at hv;cases hv
    |some qq=>rw[e] at hv;exact⟨qq,rfl,Option.some.inj hv⟩
   have hm:qq∈qs:=List.mem_of_getElem? hq
   have hnm:(nms qs)[i]? =some qq.2.1:=by
    show(qs.map (·.2.1))[i]? =_
    rw[List.getElem?_map,hq];rfl
   obtain⟨c,u,ec,hc,hk⟩:=hp qq hm
   obtain⟨qv,qn,qb⟩:=qq
   have ec:qv=.ref c:=ec
   subst ec
   refine⟨_,rfl,c,_,_,_,rfl,rfl,aN.of hc,rfl,_,rfl,rfl,_,rfl,cu (λcc=>?_) (λcc=>?_)⟩
   . have e:qn=x:=by
      have:=of_decide_eq_true cc
      injection this
     subst e
     exact⟨_,rfl,c,_,_,_,rfl,rfl,aN.of hc,rfl,q1 _ hm rfl c u rfl hc hk⟩
   . refine⟨rfl,⟨_,rfl⟩,λj hj=>?_⟩
     by_cases e:j<i
     . exact hno j e
     . have:j=i:=by omega
       subst this
       rw[hnm]
       intro z
       cases z
       exact cc (decide_eq_true rfl)
 . rintro σ H' ⟨rfl,_,hno⟩
   refine q2 λhm=>?_
   obtain⟨j,hj,e⟩:=List.getElem_of_mem hm
   exact absurd (by rw[List.getElem?_eq_getElem hj,e]) (hno j (by have:(nms qs).length=(cD qs).length:=by simp[nms,cD]
                                                                  omega))
theorem af2 {qs:List Qd}{q:Qd}(h:q∈qs):q.2.1∈nms qs:=List.mem_map_of_mem h
theorem af3 {qs:List Qd}(nd:(nms qs).Nodup){q q':Qd}(h:q∈qs)(h':q'∈qs)(e:q.2.1=q'.2.1):q=q':=by
 obtain⟨i,hi,rfl⟩:=List.getElem_of_mem h
 obtain⟨j,hj,rfl⟩:=List.getElem_of_mem h'
 by_cases z:i=j
 . subst z;rfl
 . exfalso
   have hi':i<(nms qs).length:=by rw[wA];exact hi
   have hj':j<(nms qs).length:=by rw[wA];exact hj
   have ei:(nms qs)[i]=qs[i].2.1:=by simp[nms]
   have ej:(nms qs)[j]=qs[j].2.1:=by simp[nms]
   rcases Nat.lt_or_gt_of_ne z with l|l
   . exact List.pairwise_iff_getElem.mp nd i j hi' hj' l (by rw[ei,ej];exact e)
   . exact List.pairwise_iff_getElem.mp nd j i hj' hi' l (by rw[ei,ej];exact e.symm)
theorem Wc:b_ ["key","by","pairs","fields"] ["key","by","pairs"] (aM (top 12)):=cI
theorem af4 {Pt:Addr}(T:Tb mg)(qe:Dn K mg "rows_of" ["key","by","pairs"] (top 12) Hq Hr)(qd:Dn K mg "sorted_fields" ["pairs"] (top 11) Hh z_)(af5:aH P w K mg base aP (8) Hh z_ ["pairs"] (V2 K Pt))(kO:Dn K mg "is_plain" ["kind"] (top 9) Hi Hj)(Wd:aH P w K mg base aP (1) Hi Hj ["kind"] (V3))(kW:Dn K mg "kind_at" ["fields","name"] (top 10) Hl Ho)(Wf:aH P w K mg base aP (1) Hl Ho ["fields","name"] (V4 K)):aH P w K mg base aP (9) Hq Hr ["key","by","pairs"] (V5 K Pt):=by
 refine qe.F.ok Wc (λvs H Q E h=>?_) (λcdv A outer s H vs Q E hr h=>?_)
 . obtain⟨l,qs,key,rfl,_⟩:=h
   rfl
 obtain⟨l,qs,key,rfl,hl,hp,h13,hT,hnd,⟨q0,hq0,hn0,hb0⟩,hkey,q_⟩:=h
 have nd:=Wc.nd
 have hu:=eO hr
 refine⟨_,(aB (aW (i:=3) nd rfl (Or.inl rfl) (bF af5 (hr.mono (by omega)) rfl qd.m qd.F.kp qd.b .nil bC (aj (pv 2) ao)))
  (aB (aV (ji (gR (bF Wd (hr.mono (by omega)) rfl kO.m kO.F.kp kO.b .nil bC (aj (bF Wf (hr.mono (by omega)) rfl kW.m kW.F.kp kW.b .nil bC (aj (pv 3) (aj (pv 0) ao))) ao)))) (aC bZ) aZ)
  (aB (aV (PW.pt (oF (aU jl (pv 1) bJ (aQ _)) (oE (ji (gR (bF Wd (hr.mono (by omega)) rfl kO.m kO.F.kp kO.b .nil bC (aj (bF Wf (hr.mono (by omega)) rfl kW.m kW.F.kp kW.b .nil bC (aj (pv 3) (aj (pv 1) ao))) ao))))))) (aC bZ) aZ)
  (aB (aV (aU bK (pv 1) (pv 0) (aQ _)) (aC bZ) aZ)
  (aC (bf (dR (aj bJ (aj (pv 0) (aj (pv 1) (aj (pv 3) ao))))))))))),?_⟩
 refine⟨_,rfl,l,qs,rfl,hl,hp,h13,hT,hnd,λt bD H1 nQ hT1 ht1 hpm hso=>?_⟩
 have hp1:j5 H1 bD:=λq hq=>(hp.mono (nQ.tu hT)) q (hpm.mem_iff.mp hq)
 have hnd':(nms bD).Nodup:=(hpm.map _).nodup_iff.mpr hnd
 have hq0':q0∈bD:=hpm.mem_iff.mpr hq0
 refine⟨_,rfl,_,rfl,t,bD,key,rfl,aN.of ht1,hp1,(λq hq hn c u ec hc hk=>⟨u,rfl,.inr ⟨q.2.2,hk,λH2 s2=>?_⟩⟩),λhni=>absurd (by rw[<-hn0];exact af2 hq0') hni⟩
 have eq0:=af3 hnd' hq hq0' (hn.trans hn0.symm)
 refine⟨q.2.2,rfl,?_⟩
 rw[eq0,hb0]
 refine bU ?_
 refine⟨_,rfl,rfl,_,rfl,?_⟩
 rw[decide_eq_true rfl]
 refine bU ?_
 refine⟨_,rfl,_,rfl,rfl,_,rfl,cu (λc=>?_) (λc=>?_)⟩
 . have:=of_decide_eq_true c
   injection this with e
   exact absurd e.symm hkey
 refine⟨_,rfl,_,rfl,_,rfl,ZC,λr hr'=>?_⟩
 have sr:Same H2 (upd H2 r (.tup [.str "rows",.str key,.str "",.ref t])):=Same.new hr'
 exact q_ r t bD _ (nQ.trans (Kp.of (s2.trans sr))) ((hT1.same s2).same sr) aD (sr _ _ (s2 _ _ ht1)) hpm hso
theorem af7 (ss:List Str):((List.range ss.length).map λi=>(Sum.inr (ss.getD i ""):Key))=ss.map Sum.inr:=by
 refine List.ext_getElem (by simp) λi h1 h2=>?_
 have hi:i<ss.length:=by simpa using h2
 rw[List.getElem_map,List.getElem_range,List.getElem_map,List.getD_eq_getElem?_getD,List.getElem?_eq_getElem hi]
 rfl
theorem af8 {ss:List Str}(h:ss.Nodup):(fU (λi=>(Sum.inr (ss.getD i ""):Key)) ss.length).length=ss.length:=by
 have hn:((List.range ss.length).map λi=>(Sum.inr (ss.getD i ""):Key)).Nodup:=by
  rw[af7]
  exact List.Pairwise.map _ (λa b h z=>h (Sum.inr.inj z)) h
 rw[VN hn,List.length_map,List.length_range]
theorem FA.mk {H:Hp}{kd:Str->Kd}:∀{qs:List Qd},(∀q∈qs,∃c u,q.1=.ref c/\H c=some (.tup [.str q.2.1,u])/\KA H u (kd q.2.1))->FA H (cD qs) (mq kd (nms qs))
 |[],_=>by show FA H [] .nil;unfold FA;rfl
 |q::r,h=>by
  obtain⟨c,u,e,hc,hk⟩:=h q List.mem_cons_self
  show FA H (q.1::cD r) (.cons q.2.1 (kd q.2.1) (mq kd (nms r)))
  unfold FA
  exact⟨c,u,cD r,by rw[e],hc,hk,FA.mk λq hq=>h q (List.mem_cons_of_mem _ hq)⟩
structure nR (K:W.Frag) (mg:Str->Option Value) (C fI fB fS fP fA:Addr):Prop where
 ct:Cls K C
 na:mU K C "at"
 nd:mU K C "deep"
 nk:mU K C "knot"
 mkk:Mk K C fI
 m:mg "Unroll"=some (.ref C)
 b:Meth K C "behind" fB
 s:Meth K C "see" fS
 p:Meth K C "put" fP
 a:Meth K C "ask_rows" fA
noncomputable abbrev rB (C dx:Addr) (x y z:Str):HO:=.ins C dx [("at",.str x),("deep",.str y),("knot",.str z)]
noncomputable def Wg (C:Addr):Sp:=λvs H Q _=>∃v dx x y z,vs=[.ref v,.str x,.str y,.str z]/\H v=some (.ins C dx [])/\∀H',(∀c o,c≠v->H c=some o->H' c=some o)->H' v=some (rB C dx x y z)->Q .non H'
noncomputable def Wh:Sp:=λvs H Q _=>vs=[.bl true]/\Q .non H
noncomputable def Hs (P2 C:Addr):Sp:=λvs H Q _=>∃v kk dx,∃N:bI,∃u,vs=[.ref v,.ref kk]/\H v=some (rB C dx N.x N.y N.z)/\H kk=some (.tup [.str "tree",u])/\KA H u N.kp/\N.ok/\N.x≠("":Str)/\cg P2 d9 d_ H/\
 ∀r H',eE P2 H H'->cg P2 d9 d_ H'->RK H' N r->Q (.ref r) H'
section
variable {P:Program}{w:World}{K:W.Frag}{mg:Str->Option Value}{base:Heap}
variable {C P2:Addr}
theorem Wi:b_ ["stands"] ["stands"] (aM (top 24)):=cI
theorem af_ (T:Tb mg)(qg:Dn K mg "ask_stands" ["stands"] (top 24) Hu Hv):aH P w K mg base aP (1) Hu Hv ["stands"] (Wh):=by
 refine qg.F.ok Wi (λvs H Q E h=>?_) (λcdv A outer s H vs Q E hr h=>?_)
 . obtain⟨rfl,_⟩:=h
   rfl
 obtain⟨rfl,q⟩:=h
 have nd:=Wi.nd
 refine⟨_,(aC (aV (ji (gR (pv 0))) (aC bZ) aZ)),?_⟩
 exact⟨_,rfl,true,rfl,bU q⟩
theorem Wj:b_ ["self","at","deep","knot"] ["self","at","deep","knot"] (aM (bw 28 0)):=cI
theorem aga (T:Tb mg)(UF:nR K mg C kY jC kZ jD k_)(tR:Dm K "__init__" "Unroll.__init__" ["self","at","deep","knot"] (bw 28 0) kY Hw):aH P w K mg base aP (1) kY Hw ["self","at","deep","knot"] (Wg C):=by
 refine tR.F.ok Wj (λvs H Q E h=>?_) (λcdv A outer s H vs Q E hr h=>?_)
 . obtain⟨v,dx,x,y,z,rfl,_⟩:=h
   rfl
 obtain⟨v,dx,x,y,z,rfl,hv,q⟩:=h
 have nd:=Wj.nd
 refine⟨_,(aB (BR (pv 0) (pv 1) rfl)
  (aB (BR (pv 0) (pv 2) rfl)
  (aC (BR (pv 0) (pv 3) rfl)))),?_⟩
 refine⟨_,rfl,_,rfl,v,C,dx,[],rfl,hv,UF.ct,UF.na,by decide,?_⟩
 refine⟨_,rfl,_,rfl,v,C,dx,_,rfl,aD,UF.ct,UF.nd,by show(1:Nat)<1000;decide,?_⟩
 refine⟨_,rfl,_,rfl,v,C,dx,_,rfl,aD,UF.ct,UF.nk,by show(2:Nat)<1000;decide,?_⟩
 exact q _ (λc o hc e=>by rw[au hc,au hc,au hc];exact e) aD
theorem Wk:b_ ["self","kind"] ["self","kind"] (aM (bw 28 1)):=cI
theorem agb (T:Tb mg)(UF:nR K mg C kY jC kZ jD k_)(nU:Dm K "behind" "Unroll.behind" ["self","kind"] (bw 28 1) jC wC)(qg:Dn K mg "ask_stands" ["stands"] (top 24) Hu Hv)(agc:aH P w K mg base aP (1) Hu Hv ["stands"] (Wh))(qe:Dn K mg "rows_of" ["key","by","pairs"] (top 12) Hq Hr)(agd:aH P w K mg base aP (9) Hq Hr ["key","by","pairs"] (V5 K P2)):aH P w K mg base aP (10) jC wC ["self","kind"] (Hs P2 C):=by
 refine nU.F.ok Wk (λvs H Q E h=>?_) (λcdv A outer s H vs Q E hr h=>?_)
 . obtain⟨v,kk,dx,N,u,rfl,_⟩:=h
   rfl
 obtain⟨v,kk,dx,⟨x,y,z,kp,l0⟩,u,rfl,hv,hkk,hk,hN,hx0,hT,q⟩:=h
 have hxy:=hN.xy
 have hxz:=hN.xz
 have hyz:=hN.yz
 dsimp only at hv hk hx0 hxy hxz hyz
 have nd:=Wk.nd
 have hu:=eO hr
 refine⟨_,(aB (jj (bF agc (hr.mono (by omega)) rfl qg.m qg.F.kp qg.b .nil bC (aj (oH (qJ bK (aJ bV (pv 1) ak (λ_ _=>rfl)) bJ (aQ _)) (oG (qJ bK (bN afS (by rfl) T.dY PySem.boot_len (aj (qO (afR rfl) (by rfl) T.adn boot_set (aj (cL (aj (gD (pv 0) rfl) (aj (gD (pv 0) rfl) (aj (gD (pv 0) rfl) ao)))) ao)) ao)) ak (aQ _)))) ao)))
  (aC (bf (bF agd (hr.mono (by omega)) rfl qe.m qe.F.kp qe.b .nil bC (aj (gD (pv 0) rfl) (aj bJ (aj (cL (aj (dR (aj (gD (pv 0) rfl) (aj (dR (aj bJ ao)) ao))) (aj (dR (aj (gD (pv 0) rfl) (aj (dR (aj bJ ao)) ao))) (aj (dR (aj (gD (pv 0) rfl) (aj (aJ bV (pv 1) ak (λ_ _=>rfl)) ao))) ao)))) ao))))))),?_⟩
 refine⟨_,rfl,kk,_,_,_,rfl,rfl,aN.of hkk,rfl,rfl,_,rfl,?_⟩
 rw[decide_eq_true rfl]
 refine cZ ?_
 refine⟨_,rfl,v,C,dx,_,_,rfl,hv,UF.ct,UF.na,rfl,_,rfl,v,C,dx,_,_,rfl,hv,UF.ct,UF.nd,rfl,_,rfl,v,C,dx,_,_,rfl,hv,UF.ct,UF.nk,rfl,w6,λl hl=>?_⟩
 have s1:Same H (upd H l (.lst [.str x,.str y,.str z])):=Same.new hl
 have Hx:[x,y,z].Nodup:=by simp[hxy,hxz,hyz]
 refine⟨l,[x,y,z],rfl,aq.of aD,by show 3<=60;decide,λp hp=>⟨p,_,rfl,aD,rfl,?_⟩⟩
 rw[af8 Hx]
 have s2:Same (upd H l (.lst [.str x,.str y,.str z])) (upd (upd H l (.lst [.str x,.str y,.str z])) p (Hg P w p 3)):=Same.new hp
 have s12:=s1.trans s2
 refine⟨congrArg (λb=>[V.bl b]) (decide_eq_true rfl),?_⟩
 have hv1:=s12 _ _ hv
 refine⟨_,rfl,v,C,dx,_,_,rfl,hv1,UF.ct,UF.na,rfl,?_⟩
 refine⟨_,rfl,v,C,dx,_,_,rfl,hv1,UF.ct,UF.na,rfl,dF,λn1 hn1=>?_⟩
 obtain⟨H2,v7,s2',e2⟩:=new1 hn1 (.tup [.str "number"])
 rw[v7]
 have t2:=s12.trans s2'
 clear v7 hn1
 refine⟨gO,λq1 hq1=>?_⟩
 obtain⟨H3,lY,s3,e3⟩:=new1 hq1 (.tup [.str x,.ref n1])
 rw[lY]
 have t3:=t2.trans s3
 clear lY hq1
 refine⟨_,rfl,v,C,dx,_,_,rfl,t3 _ _ hv,UF.ct,UF.nd,rfl,dF,λn2 hn2=>?_⟩
 obtain⟨H4,pC,s4,e4⟩:=new1 hn2 (.tup [.str "number"])
 rw[pC]
 have t4:=t3.trans s4
 clear pC hn2
 refine⟨gO,λq2 hq2=>?_⟩
 obtain⟨H5,wD,s5,e5⟩:=new1 hq2 (.tup [.str y,.ref n2])
 rw[wD]
 have t5:=t4.trans s5
 clear wD hq2
 refine⟨_,rfl,v,C,dx,_,_,rfl,t5 _ _ hv,UF.ct,UF.nk,rfl,_,rfl,kk,_,_,_,rfl,rfl,aN.of (t5 _ _ hkk),rfl,gO,λq3 Wl=>?_⟩
 obtain⟨H6,wF,s6,e6⟩:=new1 Wl (.tup [.str z,u])
 rw[wF]
 have t6:=t5.trans s6
 clear wF Wl
 refine⟨w6,λpl hpl=>?_⟩
 obtain⟨H7,wG,s7,e7⟩:=new1 hpl (.lst [.ref q1,.ref q2,.ref q3])
 rw[wG]
 have t7:=t6.trans s7
 clear wG hpl
 have f6:=s6.trans s7
 have f5:=s5.trans f6
 have f4:=s4.trans f5
 have f3:=s3.trans f4
 have kN:∀{n},H7 n=some (.tup [.str "number"])->KA H7 (.ref n) .num:=λ{n} h=>by unfold KA;exact⟨n,rfl,h⟩
 have Wm:=kN (f3 _ _ e2)
 have Wn:=kN (f5 _ _ e4)
 have Wo:=KA.mono (Tu.of t7) kp hk
 obtain⟨b1,Wq⟩:=jO.of Wm
 obtain⟨b2,agf⟩:=jO.of Wn
 obtain⟨b3,agg⟩:=jO.of Wo
 have hb1:b1=true:=by
  cases b1 with
  |true=>rfl
  |false=>
   obtain⟨a',f',r',ea,ha',_,hn',_⟩:=Wq
   cases ea
   rw[f3 _ _ e2] at ha'
   cases ha'
   exact absurd rfl (hn' rfl).1
 have hpr:j5 H7 [(.ref q1,x,b1),(.ref q2,y,b2),(.ref q3,z,b3)]:=λq hq=>by
  simp only[List.mem_cons,List.not_mem_nil,or_false] at hq
  rcases hq with rfl|rfl|rfl
  . exact⟨q1,.ref n1,rfl,f4 _ _ e3,Wq⟩
  . exact⟨q2,.ref n2,rfl,f6 _ _ e5,agf⟩
  . exact⟨q3,u,rfl,s7 _ _ e6,agg⟩
 refine⟨pl,[(.ref q1,x,b1),(.ref q2,y,b2),(.ref q3,z,b3)],x,rfl,aq.of e7,hpr,by show 3<=13;decide,hT.same t7,Hx,⟨_,List.mem_cons_self,rfl,hb1⟩,hx0,λr t bD H' Wr hT' hr' ht' hpm hso=>?_⟩
 have ni:=Wr.tu (hT.same t7)
 have el:nms bD=l0:=Ux Hx (hpm.map _) hN.pm hso hN.so
 subst el
 refine q r H' ((Kp.of t7).trans Wr) hT' ⟨t,cD bD,hr',ht',FA.mk λq hq=>?_⟩
 have hq:=hpm.mem_iff.mp hq
 simp only[List.mem_cons,List.not_mem_nil,or_false] at hq
 unfold kdOf
 rcases hq with rfl|rfl|rfl
 . exact⟨q1,.ref n1,rfl,ni _ _ (f4 _ _ e3),by rw[if_neg hxz];exact KA.mono ni _ Wm⟩
 . exact⟨q2,.ref n2,rfl,ni _ _ (f6 _ _ e5),by rw[if_neg hyz];exact KA.mono ni _ Wn⟩
 . exact⟨q3,u,rfl,ni _ _ (s7 _ _ e6),by rw[if_pos rfl];exact KA.mono ni _ Wo⟩
end
end Pb
namespace Pb
open PySem L2
structure Fr where
 l:Addr
 t:Addr
 vs:List V
 ds:Ds
 fp:List Addr
 u:V
 x:D
 fx:List Addr
noncomputable def cT (H:Hp):List Fr->List V->Prop
 |[],_=>True
 |f::r,nx=>H f.l=some (.lst (f.vs++nx))/\aX H f.vs f.ds f.fp/\H f.t=some (.tup [f.u,.ref f.l])/\Own H f.u f.x f.fx/\cT H r [.ref f.t]
noncomputable def lg (fs:List Fr):Zp:=fs.map λf=>(f.x,f.ds)
noncomputable def Ad (fs:List Fr) (a:Addr):Prop:=∃f∈fs,a=f.l\/a∈f.fp\/a∈f.fx
structure lq (fs:List Fr):Prop where
 nd:(fs.map Fr.l).Nodup
 ap:∀f∈fs,∀g∈fs,f.l ∉ g.fp/\f.l ∉ g.fx
theorem cT.keep {H H':Hp}(t:Tu H H'):∀{fs:List Fr}{nx:List V},(∀a,Ad fs a->∀o,H a=some o->H' a=some o)->cT H fs nx->cT H' fs nx
 |[],_,_,_=>trivial
 |f::r,nx,k,⟨h1,h2,h3,h4,h5⟩=>
  ⟨k _ ⟨f,List.mem_cons_self,.inl rfl⟩ _ h1,h2.keep t _ λa ha=>k a ⟨f,List.mem_cons_self,.inr (.inl ha)⟩,t _ _ h3,h4.keep t _ λa ha=>k a ⟨f,List.mem_cons_self,.inr (.inr ha)⟩,
    cT.keep t (λa ⟨g,hg,ha⟩=>k a ⟨g,List.mem_cons_of_mem _ hg,ha⟩) h5⟩
theorem cT.same {H H':Hp}(s:Same H H'){fs:List Fr}{nx:List V}(h:cT H fs nx):cT H' fs nx:=h.keep (Tu.of s) λa _ o e=>s a o e
theorem cT.alive {H:Hp}:∀{fs:List Fr}{nx:List V},cT H fs nx->∀a,Ad fs a->Mu H a
 |[],_,_,a,⟨f,hf,_⟩=>nomatch hf
 |f::r,nx,⟨h1,h2,h3,h4,h5⟩,a,⟨g,hg,ha⟩=>by
  rcases List.mem_cons.mp hg with e|e
  . rw[e] at ha
    rcases ha with z|z|z
    . rw[z];exact .inl ⟨_,h1⟩
    . exact aX.alive _ h2 a z
    . exact Own.alive _ h4 a z
  . exact h5.alive a ⟨g,e,ha⟩
theorem cT.close {H:Hp}{f g:Fr}{r:List Fr}(h:cT H (f::g::r) [])(hA:lq (f::g::r)):
 ∃g',cT H (g'::r) []/\lq (g'::r)/\g'.l=g.l/\g'.t=g.t/\(g'.x,g'.ds)=(g.x,g.ds.snoc "" (pairD f.x (.lst f.ds)))/\∀a,Ad (g'::r) a->Ad (f::g::r) a:=by
 obtain⟨h1,h2,h3,h4,k1,k2,k3,k4,k5⟩:=h
 rw[List.append_nil] at h1
 have hf:Own H (.ref f.t) (pairD f.x (.lst f.ds)) (f.fx++f.l::f.fp):=by
  unfold Own
  refine⟨f.t,_,rfl,h3,?_⟩
  unfold aX
  refine⟨f.u,_,f.fx,f.l::f.fp,rfl,rfl,h4,?_⟩
  unfold aX
  refine⟨.ref f.l,[],f.l::f.fp,[],rfl,by simp,?_,by unfold aX;exact⟨rfl,rfl⟩⟩
  unfold Own
  exact⟨f.l,f.vs,f.fp,rfl,h1,rfl,h2⟩
 have nd:(f.l::g.l::r.map Fr.l).Nodup:=hA.nd
 obtain⟨n1,n2⟩:=List.nodup_cons.mp nd
 refine⟨⟨g.l,g.t,g.vs++[.ref f.t],g.ds.snoc "" (pairD f.x (.lst f.ds)),g.fp++(f.fx++f.l::f.fp),g.u,g.x,g.fx⟩,⟨by rw[List.append_nil];exact k1,aX.snoc hf _ k2,k3,k4,k5⟩,⟨n2,λp hp q hq=>?_⟩,rfl,rfl,rfl,?_⟩
 . have old:∃p0∈g::r,p.l=p0.l:=by
    rcases List.mem_cons.mp hp with e|e
    . exact⟨g,List.mem_cons_self,by rw[e]⟩
    . exact⟨p,List.mem_cons_of_mem _ e,rfl⟩
   obtain⟨p0,hp0,e0⟩:=old
   have aF:=hA.ap p0 (List.mem_cons_of_mem _ hp0) f List.mem_cons_self
   have hne:p0.l≠f.l:=λz=>n1 (by rw[<-z];exact List.mem_map_of_mem (f:=Fr.l) hp0)
   rw[e0]
   rcases List.mem_cons.mp hq with e|e
   . rw[e]
     have aG:=hA.ap p0 (List.mem_cons_of_mem _ hp0) g (List.mem_cons_of_mem _ List.mem_cons_self)
     refine⟨λz=>?_,aG.2⟩
     rcases List.mem_append.mp z with z|z
     . exact aG.1 z
     . rcases List.mem_append.mp z with z|z
       . exact aF.2 z
       . rcases List.mem_cons.mp z with z|z
         . exact hne z
         . exact aF.1 z
   . exact hA.ap p0 (List.mem_cons_of_mem _ hp0) q (List.mem_cons_of_mem _ (List.mem_cons_of_mem _ e))
 . rintro a ⟨q,hq,ha⟩
   rcases List.mem_cons.mp hq with e|e
   . rw[e] at ha
     rcases ha with z|z|z
     . exact⟨g,List.mem_cons_of_mem _ List.mem_cons_self,.inl z⟩
     . rcases List.mem_append.mp z with z|z
       . exact⟨g,List.mem_cons_of_mem _ List.mem_cons_self,.inr (.inl z)⟩
       . rcases List.mem_append.mp z with z|z
         . exact⟨f,List.mem_cons_self,.inr (.inr z)⟩
         . rcases List.mem_cons.mp z with z|z
           . exact⟨f,List.mem_cons_self,.inl z⟩
           . exact⟨f,List.mem_cons_self,.inr (.inl z)⟩
     . exact⟨g,List.mem_cons_of_mem _ List.mem_cons_self,.inr (.inr z)⟩
   . exact⟨q,List.mem_cons_of_mem _ (List.mem_cons_of_mem _ e),ha⟩
theorem cT.gn {H:Hp}:∀{j:Nat}{fs:List Fr},j<fs.length->cT H fs []->lq fs->
 ∃fs',cT H fs' []/\lq fs'/\lg fs'=Pb.gn j (lg fs)/\fs'.map Fr.l=(fs.map Fr.l).drop j/\fs'.map Fr.t=(fs.map Fr.t).drop j/\∀a,Ad fs' a->Ad fs a
 |0,fs,_,h,hA=>⟨fs,h,hA,rfl,rfl,rfl,λ_ z=>z⟩
 |j+1,[],hj,_,_=>absurd hj (by simp)
 |j+1,[_],hj,_,_=>absurd hj (by simp)
 |j+1,f::g::r,hj,h,hA=>by
  obtain⟨g',h1,h2,e1,e2,e3,h3⟩:=h.close hA
  obtain⟨fs',a1,a2,a3,a4,a5,a6⟩:=cT.gn (j:=j) (fs:=g'::r) (by simp only[List.length_cons] at hj ⊢;omega) h1 h2
  refine⟨fs',a1,a2,?_,?_,?_,λa z=>h3 a (a6 a z)⟩
  . rw[a3]
    show Pb.gn j ((g'.x,g'.ds)::lg r)=Pb.gn j (clo ((f.x,f.ds)::(g.x,g.ds)::lg r))
    rw[e3];rfl
  . rw[a4]
    show(g'.l::r.map Fr.l).drop j=(g.l::r.map Fr.l).drop j
    rw[e1]
  . rw[a5]
    show(g'.t::r.map Fr.t).drop j=(g.t::r.map Fr.t).drop j
    rw[e2]
theorem Hy (fs:List Fr):(lg fs).length=fs.length:=List.length_map ..
theorem cT.cut {H:Hp}{e:Nat}{fs:List Fr}(h1:1<=e)(h2:e<=fs.length)(h:cT H fs [])(hA:lq fs):
 ∃f r,cT H (f::r) []/\lq (f::r)/\lg (f::r)=Pb.cut e (lg fs)/\(f::r).map Fr.l=(fs.map Fr.l).drop (fs.length - e)/\(f::r).map Fr.t=(fs.map Fr.t).drop (fs.length - e)/\∀a,Ad (f::r) a->Ad fs a:=by
 obtain⟨fs',a1,a2,a3,a4,a5,a6⟩:=cT.gn (j:=fs.length - e) (by omega) h hA
 cases fs' with
 |nil=>
  have:=congrArg List.length a4
  rw[List.length_drop,List.length_map] at this
  simp at this;omega
 |cons f r=>
  refine⟨f,r,a1,a2,?_,a4,a5,a6⟩
  rw[a3]
  unfold Pb.cut
  rw[Hy]
theorem cT.push {H:Hp}{f:Fr}{r:List Fr}{t' l':Addr}{u':V}{x':D}{wH:List Addr}(h:cT H (f::r) [])(hA:lq (f::r))(ht:H t'=some (.tup [u',.ref l']))(hl:H l'=some (.lst []))(ho:Own H u' x' wH)
 (n1:¬Ad (f::r) l') (n2:l' ∉ wH) (n3:∀g∈f::r,g.l ∉ wH):
 cT (upd H f.l (.lst (f.vs++[.ref t']))) (⟨l',t',[],.nil,[],u',x',wH⟩::f::r) []/\lq (⟨l',t',[],.nil,[],u',x',wH⟩::f::r):=by
 obtain⟨h1,h2,h3,h4,h5⟩:=h
 have mu:Mu H f.l:=.inl ⟨_,h1⟩
 have tu:Tu H (upd H f.l (.lst (f.vs++[.ref t']))):=Tu.wr λys z=>mu.vJ ys z
 have nd:(f.l::r.map Fr.l).Nodup:=hA.nd
 obtain⟨m1,m2⟩:=List.nodup_cons.mp nd
 have ap:=hA.ap f List.mem_cons_self
 have kp:∀a,a≠f.l->∀o,H a=some o->upd H f.l (.lst (f.vs++[.ref t'])) a=some o:=λa ha o e=>by rw[au ha];exact e
 have hll:l'≠f.l:=λz=>n1 ⟨f,List.mem_cons_self,.inl z⟩
 refine⟨⟨kp _ hll _ hl,by unfold aX;exact⟨rfl,rfl⟩,tu _ _ ht,ho.keep tu _ λa ha=>kp a λz=>n3 f List.mem_cons_self (by rw[<-z];exact ha),
  aD,h2.keep tu _ λa ha=>kp a λz=>(ap f List.mem_cons_self).1 (by rw[<-z];exact ha),tu _ _ h3,h4.keep tu _ λa ha=>kp a λz=>(ap f List.mem_cons_self).2 (by rw[<-z];exact ha),h5.keep tu λa ⟨g,hg,ha⟩=>kp a λz=>?_⟩,⟨?_,?_⟩⟩
 . rcases ha with y|y|y
   . exact m1 (by rw[<-z,y];exact List.mem_map_of_mem (f:=Fr.l) hg)
   . exact(ap g (List.mem_cons_of_mem _ hg)).1 (by rw[<-z];exact y)
   . exact(ap g (List.mem_cons_of_mem _ hg)).2 (by rw[<-z];exact y)
 . show(l'::f.l::r.map Fr.l).Nodup
   refine List.nodup_cons.mpr ⟨λz=>?_,nd⟩
   have z:l'∈(f::r).map Fr.l:=z
   obtain⟨g,hg,e⟩:=List.mem_map.mp z
   exact n1 ⟨g,hg,.inl e.symm⟩
 . intro p hp q hq
   rcases List.mem_cons.mp hp with e|e <;> rcases List.mem_cons.mp hq with e2|e2
   . rw[e,e2];exact⟨by simp,n2⟩
   . rw[e]
     exact⟨λz=>n1 ⟨q,e2,.inr (.inl z)⟩,λz=>n1 ⟨q,e2,.inr (.inr z)⟩⟩
   . rw[e2];exact⟨by simp,n3 p e⟩
   . exact hA.ap p e q e2
theorem cT.tree {H:Hp}{f:Fr}(h:cT H [f] []):Own H (.ref f.t) (pairD f.x (.lst f.ds)) (f.fx++f.l::f.fp):=by
 obtain⟨h1,h2,h3,h4,_⟩:=h
 rw[List.append_nil] at h1
 unfold Own
 refine⟨f.t,_,rfl,h3,?_⟩
 unfold aX
 refine⟨f.u,_,f.fx,f.l::f.fp,rfl,rfl,h4,?_⟩
 unfold aX
 refine⟨.ref f.l,[],f.l::f.fp,[],rfl,by simp,?_,by unfold aX;exact⟨rfl,rfl⟩⟩
 unfold Own
 exact⟨f.l,f.vs,f.fp,rfl,h1,rfl,h2⟩
theorem cT.fin {H:Hp}{fs:List Fr}{ts:List Addr}{t0:Addr}(h:cT H fs [])(hA:lq fs)(ht:fs.map Fr.t=ts++[t0]):∃fp,Own H (.ref t0) (Pb.fin (lg fs)) fp/\∀a∈fp,Ad fs a:=by
 have hl:1<=fs.length:=by
  have:=congrArg List.length ht
  rw[List.length_map,List.length_append] at this
  simp at this;omega
 obtain⟨f,r,a1,a2,a3,a4,a5,a6⟩:=h.cut (Nat.le_refl 1) hl hA
 have hr:r=[]:=by
  have:=congrArg List.length a5
  rw[List.length_drop,List.length_map,List.length_map] at this
  cases r with
  |nil=>rfl
  |cons _ _=>simp at this;omega
 subst hr
 have e:f.t=t0:=by
  rw[ht] at a5
  have hl2:fs.length - 1=ts.length:=by
   have:=congrArg List.length ht
   rw[List.length_map,List.length_append] at this
   simp at this;omega
  rw[hl2,List.drop_left] at a5
  exact(List.cons.inj a5).1
 refine⟨f.fx++f.l::f.fp,?_,λa ha=>a6 a ?_⟩
 . unfold Pb.fin
   rw[<-a3,<-e]
   exact cT.tree a1
 . rcases List.mem_append.mp ha with z|z
   . exact⟨f,List.mem_cons_self,.inr (.inr z)⟩
   . rcases List.mem_cons.mp z with z|z
     . exact⟨f,List.mem_cons_self,.inl z⟩
     . exact⟨f,List.mem_cons_self,.inr (.inl z)⟩
end Pb
namespace Pb
open PySem L2 PyProof.Rows
noncomputable def Ws (C:Addr) (n:Nat):Sp:=λvs H Q _=>∃v kv src dx x y z d fp P,vs=[.ref v,kv,src]/\H v=some (rB C dx x y z)/\x≠y/\x≠z/\y≠z/\Own H src d fp/\dM P d/\d.dep<=n/\d.Sm/\(flat 0 d).length<=1000/\
 ∀p ws H',H p=none->Same H H'->H' p=some (.lst ws)->fO fp x y z H' ws (flat 0 d)->Q (.ref p) H'
noncomputable def Aa (qs:List (Nat × D)):Nat->Nat
 |0=>0
 |i+1=>match qs[i]? with
  |some q=>q.1+1
  |none=>0
theorem Wt:∀{r:List (Nat × D)}{m i:Nat}{q:Nat × D},fM m r->r[i]? =some q->1<=q.1/\q.1<=if i=0 then m else Aa r i
 |[],_,_,_,_,h=>by simp at h
 |a::r,m,0,q,⟨h1,h2,_⟩,h=>by
  have h:some a=some q:=h
  cases h
  exact⟨h1,by rw[if_pos rfl];exact h2⟩
 |a::r,m,i+1,q,⟨_,_,h3⟩,h=>by
  have h:r[i]? =some q:=h
  have:=Wt h3 h
  refine⟨this.1,?_⟩
  rw[if_neg (by omega)]
  cases i with
  |zero=>rw[if_pos rfl] at this;exact this.2
  |succ i=>rw[if_neg (by omega)] at this;exact this.2
theorem Hz {qs r:List (Nat × D)}{t:D}(e:qs=(0,t)::r)(h:fM 1 r){i:Nat}{q:Nat × D}(hq:qs[i]? =some q):(i=0->q.1=0)/\(1<=i->1<=q.1)/\q.1<=Aa qs i:=by
 subst e
 cases i with
 |zero=>
  have hq:some (0,t)=some q:=hq
  cases hq
  exact⟨λ_=>rfl,λz=>absurd z (by decide),Nat.le_refl _⟩
 |succ i=>
  have hq:r[i]? =some q:=hq
  have:=Wt h hq
  refine⟨λz=>absurd z (by omega),λ_=>this.1,?_⟩
  cases i with
  |zero=>rw[if_pos rfl] at this;exact this.2
  |succ i=>rw[if_neg (by omega)] at this;exact this.2
noncomputable abbrev Wu:List Value:=[.type "ValueError",.type "Exception",.type "BaseException",.type "object"]
structure tU (K:W.Frag) (mg:Str->Option Value) (base:Heap) (C fI:Addr):Prop where
 xi:p7 base C fI Wu "ValueError.__new__"
 kp:W.keepIn K (.ref C)=true
 m:mg "CantPut"=some (.ref C)
 fld:p8 K C "way"
 cls:iU K C
 ty:W.typeIn K (.ref C)=some (.type "type")
 is:(W.clsIn K C).isSome=true
 bx:W.subIn K (.ref C) (.type "BaseException")=some true
 sub:W.subIn K (.ref C) (.ref C)=some true
theorem HB {P:Program}{w:World}{K:W.Frag}{mg:Str->Option Value}{base:Heap}{x qual:Str}{st:Stmt}{f:Addr}{fd:FuncData}{N ps:List Str}{k:Nat}{sp:Sp}(F:jZ K x qual st f fd)(S:b_ N ps (aM st))(len:∀vs H Q E,sp vs H Q E->vs.length=ps.length)
 (hbody:∀(cdv:Value) (A:Around) (outer:List Env) (s:Shared) (H:Hp) (vs:List V) (Q:VK) (E:XK),cP k (A.deeper (envOfC qual (aM st) s.heap.objs.size f cdv))->sp vs H Q E->
   ∃t,gP (lM (i_ P w) P w K mg base N qual (aM st) f cdv A outer s H E) (bG st) t/\t { nx:=λ_ H'=>Q .non H',rt:=Q } (start N vs) H):aH P w K mg base (i_ P w) (k+1) f fd ps sp:=by
 obtain⟨oc,od,kV,doc,pm,an,cdv,ct,osl,rfl,lk,hcd⟩:=F.ex
 refine BZ lk hcd S len λA outer s H vs Q E hr hsp=>?_
 exact hbody cdv A outer s H vs Q E hr hsp
theorem agh {X:Cx}{K:W.Frag}{e:Expr}{ta:TE}{f:Str}{pos:Pos}(hK:X.K=K)(he:PE X e ta)(hb:attributeBase e f X.env (eval e X.env)=eval e X.env):PE X (.Attribute e f pos) (VF K ta f):=by
 subst hK
 exact afy he hb
noncomputable def Ab (K:W.Frag) (C:Addr):Sp:=λvs H Q _=>∃a p0 ws,vs=[.ref a,.ref p0]/\H a=some (nO a C)/\aq K H p0 ws/\∀p dx H',p≠a->dx≠a->(∀c o,c≠a->H c=some o->H' c=some o)->H' a=some (MadeX a C dx)->H' dx=some (.xd [("way",.ref p)])->H' p=some (.lst ws)->Q .non H'
noncomputable def tV (gs:List GR) (i:Nat):Int:=if i=0 then 0 else bA gs (i - 1)+1
theorem Wv (N:bI)(gs:List GR)(i:Nat){m:Int}(hm:m=if i=0 then 0 else 1):iY N gs i=if aY gs i≠(i:Int) then some [.int i,.str N.x] else if bA gs i<m\/tV gs i<bA gs i then some [.int i,.str N.y] else none:=by
 subst hm
 unfold iY tV
 by_cases z1:aY gs i=(i:Int)
 . have nz:¬(aY gs i≠(i:Int)):=λh=>h z1
   rw[if_neg nz,if_neg nz]
   by_cases z:i=0
   . subst z
     rw[if_pos rfl,if_pos rfl]
     by_cases z2:bA gs 0=0
     . rw[if_neg (by omega),if_neg (by omega)]
     . rw[if_pos (.inl ⟨rfl,z2⟩),if_pos (by omega)]
   . rw[if_neg z,if_neg z]
     by_cases z2:bA gs i<1\/bA gs (i - 1)+1<bA gs i
     . rw[if_pos (.inr ⟨by omega,z2⟩),if_pos z2]
     . rw[if_neg (λw=>w.elim (λw=>z w.1) λw=>z2 w.2),if_neg z2]
 . rw[if_pos z1,if_pos z1]
noncomputable def XW (bL:Addr) (ws:List V) (Kp:Hp->Prop) (E:XK):Prop:=∀dx p H',Kp H'->H' dx=some (.xd [("way",.ref p)])->H' p=some (.lst ws)->E (.ref bL) (some dx) H'
theorem wI {K:W.Frag}{bL:Addr}{H:Hp}{E:XK}{ws:List V}(q:XW bL ws (Same H) E){p0:Addr}{H1:Hp}(s1:Same H H1)(hp0:H1 p0=some (.lst ws))(a:Addr)(ha:H1 a=none):Ab K bL [.ref a,.ref p0] (upd H1 a (nO a bL)) (λv H2=>v=.non/\∃dx,H2 a=some (MadeX a bL dx)/\E (.ref bL) (some dx) (rem H2 a)) E0:=by
 refine⟨a,p0,ws,rfl,aD,aq.of (by rw[au (aR hp0 ha)];exact hp0),λp dx H' hpa hda keep hMa hdx hp=>⟨rfl,dx,hMa,?_⟩⟩
 refine q dx p _ (λc o e=>?_) (by rw[mC hda];exact hdx) (by rw[mC hpa];exact hp)
 have e1:=s1 c o e
 have hca:=aR e1 ha
 rw[mC hca]
 exact keep c o hca (by rw[au hca];exact e1)
noncomputable def Ww (bL C:Addr):Sp:=λvs H Q E=>∃v sn dx N cs gs,vs=[.ref v,.ref sn]/\H v=some (rB C dx N.x N.y N.z)/\iV H N sn cs gs/\iw N gs=none/\(iJ N gs=none->∀H',Same H H'->Q .non H')/\∀ws,iJ N gs=some ws->XW bL ws (Same H) E
section
variable {P:Program}{w:World}{K:W.Frag}{mg:Str->Option Value}{base:Heap}
variable {C P2 bL:Addr}
theorem Wx:b_ ["self","kind","source","rows","deep","value"] ["self","kind","source"] (aM (bw 28 2)):=cI
theorem agj (n:Nat)(T:Tb mg)(UF:nR K mg C kY jC kZ jD k_)(tW:Dm K "see" "Unroll.see" ["self","kind","source"] (bw 28 2) kZ HD)(h_:Dn K mg "knots_of" ["tree","deep"] (top 27) o9 o_)(EY:aH P w K mg base aP (n+1) o9 o_ ["tree","deep"] (vX n)):aH P w K mg base aP (n+2) kZ HD ["self","kind","source"] (Ws C n):=by
 refine tW.F.ok Wx (λvs H Q E h=>?_) (λcdv A outer s H vs Q E hr h=>?_)
 . obtain⟨v,kv,src,dx,x,y,z,d,fp,P,rfl,_⟩:=h
   rfl
 obtain⟨v,kv,src,dx,x,y,z,d,fp,P,rfl,hv,hxy,hxz,hyz,hO,lu,hd,hS,hL,q⟩:=h
 have nd:=Wx.nd
 have hu:=eO hr
 refine⟨_,(aB (aW (i:=3) nd rfl (Or.inl rfl) (cL ao))
  (aB (fY PassesOwn.never rfl (jY (bF EY (hr.mono (by omega)) rfl h_.m h_.F.kp h_.b .nil bC (aj (pv 2) (aj ak ao)))) (lK rfl (eY (cG (i:=4) nd rfl (Or.inl rfl)) (eY (cG (i:=5) nd rfl (Or.inl rfl)) lJ))) (aC (jj (mY PySem.F.plainAttrs_list PySem.F.slot_list_append PySem.F.type_list_append u6 (pv 3) (aj (yq (jJ (gD (pv 0) rfl) (bN gG (by rfl) T.dY PySem.boot_len (aj (pv 3) ao)) (jJ (gD (pv 0) rfl) (pv 4) (jJ (gD (pv 0) rfl) (pv 5) yp))) rfl rfl (by simp) (by decide)) ao)))))
  (aC (bf (pv 3))))),?_⟩
 refine⟨wZ,λp hp=>?_⟩
 have s0:Same H (upd H p (.lst [])):=Same.new hp
 refine⟨_,rfl,src,0,d,fp,P,rfl,hO.same s0,lu,hd,hS,hL,λp2 jP H2 hp2 s2 h2 hk2=>?_⟩
 have hpp:p≠p2:=aR aD hp2
 have hp2':=s2 _ _ (aD:upd H p (.lst []) p=some (.lst []))
 have kS:∀a∈fp,a≠p:=λa ha=>(Own.alive _ hO a ha).ne hp
 have Wy:p ∉ fp:=λz=>kS p z rfl
 have hl2:=hk2.1
 refine⟨p2,rfl,⟨_,aq.of h2⟩,qH (xs:=jP) (λi σ H'=>∃x4 x5 ws,σ=[some (.ref v),some kv,some src,some (.ref p),x4,x5]/\SB p H2 H'/\H' p=some (.lst ws)/\fO fp x y z H' ws ((flat 0 d).take i)) ?_ ?_ ?_ ?_⟩
 . exact⟨_,_,[],rfl,SB.refl _ _,hp2',eU.nil⟩
 . rintro i σ H' _ ⟨x4,x5,ws,rfl,sb,_⟩
   exact aq.of (sb _ _ (Ne.symm hpp) h2)
 . rintro i wv σ H' hw ⟨x4,x5,ws,rfl,sb,hp',hR⟩
   obtain⟨qq,oO,c,u,f,rfl,hc,ho,hf⟩:=hk2.at hw
   have tu:=sb.vQ hp2'
   have hi:i<(flat 0 d).length:=(List.getElem?_eq_some_iff.mp oO).1
   have hwl:=hR.1
   rw[List.length_take,Nat.min_eq_left (by omega)] at hwl
   have hvp:v≠p:=aR hv hp
   have hv':=sb _ _ hvp (s2 _ _ (s0 _ _ hv))
   refine⟨c,_,rfl,aN.of (tu _ _ hc),rfl,_,_,rfl,_,_,rfl,rfl,?_⟩
   refine⟨_,rfl,.inl ⟨rfl,_,aq.of hp'⟩,λpd hpd=>?_⟩
   have sd:Same H' (upd H' pd (.dK [])):=Same.new hpd
   refine⟨_,rfl,v,C,dx,_,_,rfl,sd _ _ hv',UF.ct,UF.na,rfl,_,rfl,p,ws,rfl,.inl (aq.of (sd _ _ hp')),?_⟩
   refine⟨_,rfl,v,C,dx,_,_,rfl,sd _ _ hv',UF.ct,UF.nd,rfl,_,rfl,?_⟩
   refine⟨_,rfl,v,C,dx,_,_,rfl,sd _ _ hv',UF.ct,UF.nk,rfl,_,rfl,aD,[(Sum.inr x,.int ws.length),(Sum.inr y,.int qq.1),(Sum.inr z,u)],rfl,by show 3<=15;decide,?_⟩
   rw[zB hxy hxz hyz]
   obtain⟨Hd,hE,jr,ed⟩:∃Hd,upd (upd H' pd (.dK [])) pd (.dK [(Sum.inr x,.int ws.length),(Sum.inr y,.int qq.1),(Sum.inr z,u)])=Hd/\Same H' Hd/\Hd pd=some (.dK [(Sum.inr x,.int ws.length),(Sum.inr y,.int qq.1),(Sum.inr z,u)]):=
    ⟨_,rfl,λa o h=>by rw[au (aR h hpd)];exact sd a o h,aD⟩
   rw[hE]
   refine⟨p,ws,_,rfl,rfl,jr _ _ hp',dX (by omega),?_⟩
   clear hE
   have sY:SB p Hd (upd Hd p (.lst (ws++[.ref pd]))):=SB.wr
   have ho':Own H' u qq.2 f:=ho.keep tu _ λa ha o e=>sb a o (kS a (hf a ha)) e
   have row:o8 fp x y z Hd i (.ref pd) qq:=⟨pd,u,f,rfl,by rw[<-hwl];exact ed,ho'.same jr,hf⟩
   refine⟨_,_,_,rfl,sb.trans ((SB.of jr).trans sY),aD,?_⟩
   rw[List.take_succ,oO]
   refine(((hR.same jr).sb sY (jr _ _ hp') Wy)).snoc ?_
   rw[List.length_take,Nat.min_eq_left (by omega)]
   exact row.sb sY (jr _ _ hp') Wy
 . rintro σ H' ⟨x4,x5,ws,rfl,sb,hp',hR⟩
   rw[hl2,List.take_length] at hR
   exact⟨_,rfl,q p ws H' hp (λa o h=>sb a o (aR h hp) (s2 _ _ (s0 _ _ h))) hp' hR⟩
theorem Wz:b_ ["self","way"] ["self","way"] (aM (bw 5 0)):=cI
theorem agl (T:Tb mg)(XC:tU K mg base bL mD)(lA:Dm K "__init__" "CantPut.__init__" ["self","way"] (bw 5 0) mD wJ):aH P w K mg base aP (1) mD wJ ["self","way"] (Ab K bL):=by
 refine lA.F.ok Wz (λvs H Q E h=>?_) (λcdv A outer s H vs Q E hr h=>?_)
 . obtain⟨a,p0,ws,rfl,_⟩:=h
   rfl
 obtain⟨a,p0,ws,rfl,ha,hs,q⟩:=h
 have nd:=Wz.nd
 refine⟨_,(aC (aft (pv 0) (qO aa5 (by rfl) T.yV boot_list (aj (pv 1) ao)) rfl)),?_⟩
 refine⟨_,rfl,p0,_,rfl,.inl hs,λp hp=>?_⟩
 have hpa:a≠p:=aR ha hp
 refine⟨_,rfl,a,bL,rfl,by rw[au hpa];exact ha,XC.fld,λdx hdx hda=>?_⟩
 have hpd:p≠dx:=aR (H:=upd H p (.lst ws)) aD hdx
 refine q p dx _ (Ne.symm hpa) hda (λc o hc e=>?_) aD ?_ ?_
 . have e1:upd H p (.lst ws) c=some o:=by rw[au (aR e hp)];exact e
   rw[au hc,au (aR e1 hdx)];exact e1
 . rw[au hda,aD]
 . rw[au (Ne.symm hpa),au hpd,aD]
theorem WD:b_ ["self","rows","deepest","number","row","least"] ["self","rows"] (aM (bw 28 4)):=cI
theorem agm (T:Tb mg)(XC:tU K mg base bL mD)(UF:nR K mg C kY jC kZ jD k_)(tX:Dm K "ask_rows" "Unroll.ask_rows" ["self","rows"] (bw 28 4) k_ HF)(lA:Dm K "__init__" "CantPut.__init__" ["self","way"] (bw 5 0) mD wJ)(wK:aH P w K mg base aP (1) mD wJ ["self","way"] (Ab K bL)):aH P w K mg base (i_ P w) 4 k_ HF ["self","rows"] (Ww bL C):=by
 refine HB tX.F WD (λvs H Q E h=>?_) (λcdv A outer s H vs Q E hr h=>?_)
 . obtain⟨v,sn,dx,N,cs,gs,rfl,_⟩:=h
   rfl
 obtain⟨v,sn,dx,N,cs,gs,rfl,hv,hR,hm,q1,q2⟩:=h
 have nd:=WD.nd
 have hu:=eO hr
 refine⟨_,(aB (aV (aU bK (bN gG (by rfl) T.dY PySem.boot_len (aj (pv 1) ao)) ak (aQ _)) (aC (z8 rfl XC.xi PySem.F.excBase_ValueError XC.kp wK (hr.mono (by omega)) rfl rfl XC.m lA.b z9 (aj (cL ao) ao))) aZ)
  (aB (aW (i:=2) nd rfl (Or.inl rfl) ak)
  (aC (fY PassesOwn.leaving rfl (CG rfl T.D_ (aj (pv 1) ao)) (lK rfl (eY (cG (i:=3) nd rfl (Or.inl rfl)) (eY (cG (i:=4) nd rfl (Or.inl rfl)) lJ))) (aB (aV (aU jl (dD hu (pv 4) (gD (pv 0) rfl) (λ_ _=>rfl)) (pv 3) (aQ _)) (aC (z8 rfl XC.xi PySem.F.excBase_ValueError XC.kp wK (hr.mono (by omega)) rfl rfl XC.m lA.b z9 (aj (cL (aj (pv 3) (aj (gD (pv 0) rfl) ao))) ao))) aZ)
  (aB (aW (i:=5) nd rfl (Or.inl rfl) (Bo (aU bK (pv 3) ak (aQ _)) ak ak))
  (aB (aV (PW.pt (lG (aU O5 (dD hu (pv 4) (gD (pv 0) rfl) (λ_ _=>rfl)) (pv 5) (aQ _)) (lF (aU rR (dD hu (pv 4) (gD (pv 0) rfl) (λ_ _=>rfl)) (pv 2) (aQ _))))) (aC (z8 rfl XC.xi PySem.F.excBase_ValueError XC.kp wK (hr.mono (by omega)) rfl rfl XC.m lA.b z9 (aj (cL (aj (pv 3) (aj (gD (pv 0) rfl) ao))) ao))) aZ)
  (aC (aW (i:=2) nd rfl (Or.inl rfl) (aL gC (dD hu (pv 4) (gD (pv 0) rfl) (λ_ _=>rfl)) ak)))))))))),?_⟩
 have hN:=hR.ok
 have hsn:=hR.at_
 have jB:cs.length=gs.length:=hR.gl.1
 have Gw:=hR.pP
 refine⟨_,rfl,sn,_,rfl,.inl (aq.of hsn),rfl,_,rfl,cu (λc=>?_) (λc=>?_)⟩
 . have h0:gs.length=0:=by
    have:=of_decide_eq_true c
    injection this with e
    rw[iW] at e
    omega
   exact⟨Nat.zero_le _,λp0 hp0=>⟨dF,wI (q2 [] (by unfold iJ;rw[if_pos h0])) (Same.new hp0) aD⟩⟩
 have h0:1<=gs.length:=by
  rcases Nat.eq_zero_or_pos gs.length with e|e
  . exact absurd (decide_eq_true (congrArg V.int (by rw[iW,jB,e];rfl))) c
  . exact e
 have hd:iJ N gs=eX (iY N gs) gs.length 0:=by unfold iJ;rw[if_neg (by omega)]
 rw[hd] at q1 q2
 refine⟨_,rfl,sn,rfl,⟨_,aq.of hsn⟩,Ge (xs:=cs.map V.ref) (λi σ H'=>Same H H'/\(∃x3 x4 x5,σ=[some (.ref v),some (.ref sn),some (.int (tV gs i)),x3,x4,x5])/\∀j,j<i->iY N gs j=none) ⟨Same.refl _,⟨_,_,_,rfl⟩,λj hj=>absurd hj (by omega)⟩ ?_ ?_ ?_⟩
 . rintro i σ H' _ ⟨s2,_⟩
   exact aq.of (s2 _ _ hsn)
 . rintro i yv σ H' t' hy ⟨s2,⟨x3,x4,x5,rfl⟩,hno⟩ ht'
   obtain⟨c,hc,rfl⟩:=tH hy
   obtain⟨ce,v2,hg,hH,_,_⟩:=hR.gl.fit hN hc λg hg=>(Gs hm hg).1
   have hi:i<gs.length:=(List.getElem?_eq_some_iff.mp hg).1
   have s3:=s2.trans (Same.new (o:=.tup [.int i,.ref c]) ht')
   have gx:=zR (s3 _ _ hH)
   have gy:=zT hN.xy (s3 _ _ hH)
   have nW:=s3 _ _ hv
   have fin:∀ws,iY N gs i=some ws->XW bL ws (Same H) E:=λws e=>q2 ws (nG hi hno e)
   refine⟨t',_,rfl,aN.of aD,rfl,_,_,rfl,_,_,rfl,rfl,?_⟩
   refine⟨_,rfl,_,rfl,v,C,dx,_,_,rfl,nW,UF.ct,UF.na,rfl,c,_,rfl,gx,_,rfl,rfl,_,rfl,cu (λc1=>?_) (λc1=>?_)⟩
   . have z1:aY gs i≠(i:Int):=λe=>by rw[e,decide_eq_true rfl] at c1;exact absurd c1 (by decide)
     have e:=Wv N gs i rfl
     rw[if_pos z1] at e
     exact⟨_,rfl,_,rfl,v,C,dx,_,_,rfl,nW,UF.ct,UF.na,rfl,gO,λp0 hp0=>⟨dF,wI (fin _ e) (s3.trans (Same.new hp0)) aD⟩⟩
   have z1:aY gs i=(i:Int):=by
    rcases Decidable.em (aY gs i=(i:Int)) with e|e
    . exact e
    . exact absurd (by rw[decide_eq_false (λz=>e (by injection z))];rfl) c1
   have edp:tV gs (i+1)=bA gs i+1:=by unfold tV;rw[if_neg (by omega),Nat.add_sub_cancel]
   dsimp only[dG]
   refine Uv ?_
   dsimp only
   refine j9 (A:=mL _ _) (λσ' jL=>σ'=[some (.ref v),some (.ref sn),some (.int (tV gs i)),some (.int i),some (.ref c),some (.int (if i=0 then 0 else 1))]/\jL=upd H' t' (.tup [.int i,.ref c])) ?_ (λhB=>?_)
   . rintro _ H4 ⟨rfl,e4⟩
     subst e4
     have e:=Wv N gs i (m:=if i=0 then 0 else 1) rfl
     have nz:¬(aY gs i≠(i:Int)):=λh=>h z1
     rw[if_neg nz] at e
     refine⟨_,rfl,_,rfl,v,C,dx,_,_,rfl,nW,UF.ct,UF.nd,rfl,_,_,rfl,gy,_,rfl,_,_,rfl,rfl,_,rfl,cu (λc2=>?_) (λc2=>?_)⟩
     . rw[if_pos (.inl (of_decide_eq_true c2))] at e
       exact⟨_,rfl,_,rfl,v,C,dx,_,_,rfl,nW,UF.ct,UF.nd,rfl,gO,λp0 hp0=>⟨dF,wI (fin _ e) (s3.trans (Same.new hp0)) aD⟩⟩
     refine⟨_,rfl,_,rfl,v,C,dx,_,_,rfl,nW,UF.ct,UF.nd,rfl,_,_,rfl,gy,_,rfl,_,_,rfl,rfl,_,rfl,cu (λc3=>?_) (λc3=>?_)⟩
     . rw[if_pos (.inr (of_decide_eq_true c3))] at e
       exact⟨_,rfl,_,rfl,v,C,dx,_,_,rfl,nW,UF.ct,UF.nd,rfl,gO,λp0 hp0=>⟨dF,wI (fin _ e) (s3.trans (Same.new hp0)) aD⟩⟩
     rw[if_neg (λz=>z.elim (λz=>c2 (decide_eq_true z)) λz=>c3 (decide_eq_true z))] at e
     refine⟨_,rfl,_,rfl,v,C,dx,_,_,rfl,nW,UF.ct,UF.nd,rfl,_,_,rfl,gy,_,_,rfl,rfl,?_⟩
     refine⟨s3,⟨_,_,_,by rw[edp];rfl⟩,λj hj=>?_⟩
     by_cases z:j=i
     . rw[z];exact e
     . exact hno j (by omega)
   . refine⟨_,rfl,rfl,_,rfl,cu (λc2=>?_) (λc2=>?_)⟩
     . have hi0:i=0:=by
        have:=of_decide_eq_true c2
        injection this with e
        omega
       exact hB _ _ ⟨by rw[if_pos hi0];rfl,rfl⟩
     . have hi0:i≠0:=λz=>c2 (by rw[z];rfl)
       exact hB _ _ ⟨by rw[if_neg hi0];rfl,rfl⟩
 . rintro σ H' ⟨s2,_,hno⟩
   rw[iW,jB] at hno
   exact q1 (nH hno) _ s2
end
noncomputable def WK (bL:Addr):Sp:=λvs H Q E=>∃pk sl N cs gs,vs=[.ref pk,.ref sl]/\RK H N pk/\iV H N sl cs gs/\(iw N gs=none->∀H',Same H H'->Q .non H')/\∀ws,iw N gs=some ws->XW bL ws (Same H) E
structure Ac (P2 C v kk sn:Addr) (N:bI) (cs:List Addr) (gs:List GR) (H:Hp):Prop where
 v:∃dx,H v=some (rB C dx N.x N.y N.z)
 k:∃u,H kk=some (.tup [.str "tree",u])/\KA H u N.kp
 x0:N.x≠("":Str)
 lam:cg P2 d9 d_ H
 rin:iV H N sn cs gs
noncomputable def HJ (bL P2 C:Addr):Sp:=λvs H Q E=>∃v kk src sn N cs gs,vs=[.ref v,.ref kk,src,.ref sn]/\Ac P2 C v kk sn N cs gs H/\
 (dW N gs=none->∀d v' H' fp,dM (gM N.kp) d->(flat 0 d).length=gs.length->fO [] N.x N.y N.z H (cs.map V.ref) (flat 0 d)->eE P2 H H'->cg P2 d9 d_ H'->Own H' v' d fp->Q v' H')/\
 ∀ws,dW N gs=some ws->XW bL ws (λH'=>eE P2 H H'/\cg P2 d9 d_ H') E
theorem iV.dw {Pt:Addr}{H H':Hp}{lp:Pos}{ql:Str}(x:eE Pt H H')(hT:cg Pt lp ql H){N:bI}{sl:Addr}{cs:List Addr}{gs:List GR}(h:iV H N sl cs gs):iV H' N sl cs gs:=by
 have k:∀c o,(∀ps,o≠ .dI ps)->H c=some o->H' c=some o:=λc o ho e=>by
  obtain⟨ps,hP⟩:=hT.tab
  exact x c _ (jV e hP (ho ps)) e
 have kc:∀{v:V} {c:Ce},dZ H v c->dZ H' v c:=λh=>h.keep λa o e ho=>k a o (λps z=>by rcases ho with ho|ho|ho <;> rw[ho] at z <;> cases z) e
 refine⟨h.ok,k _ _ (by intro ps z;cases z) h.at_,⟨h.gl.1,λi c g hc hg=>?_⟩,h.pP⟩
 have:=h.gl.2 i c g hc hg
 match g,this with
 |none,⟨kvs,h1,h2⟩=>exact⟨kvs,k _ _ (by intro ps z;cases z) h1,h2⟩
 |some (c0,c1,c2),⟨v0,v1,v2,h1,a0,a1,a2⟩=>exact⟨v0,v1,v2,k _ _ (by intro ps z;cases z) h1,kc a0,kc a1,kc a2⟩
theorem ago {fs gs:List Fr}{e:Nat}(h:gs.map Fr.l=(fs.map Fr.l).drop (fs.length - e)):(fs.reverse.map λf=>V.ref f.l).take e=gs.reverse.map λf=>V.ref f.l:=by
 have h2:gs.map (λf=>V.ref f.l)=(fs.map λf=>V.ref f.l).drop (fs.length - e):=by
  have:=congrArg (List.map V.ref) h
  rw[List.map_map,List.map_drop,List.map_map] at this
  exact this
 rw[List.map_reverse,List.map_reverse,h2,List.take_reverse,List.length_map]
theorem HN {P:D->Prop}(hP:∀t,P t->t.dep<=2/\t.Sm){qs r:List (Nat × D)}{t:D}(hq:qs=(0,t)::r)(hch:fM 1 r)(hall:∀q∈qs,P q.2)(V1:qs.length<=60):
 ∀i,1<=i->i<=qs.length->ZI P i ((qs.take i).foldl stp [])/\((qs.take i).foldl stp []).length=Aa qs i
 |0,h,_=>absurd h (by decide)
 |1,_,_=>by
  have e:(qs.take 1).foldl stp []=[(t,Ds.nil)]:=by rw[hq];rfl
  rw[e]
  exact⟨ZI.one (hall (0,t) (by rw[hq];exact List.mem_cons_self)),by rw[hq];rfl⟩
 |i+2,_,hi=>by
  obtain⟨z1,z2⟩:=HN hP hq hch hall V1 (i+1) (by omega) (by omega)
  have hg:qs[i+1]? =some (qs[i+1]'(by omega)):=List.getElem?_eq_getElem _
  obtain⟨_,o2,o3⟩:=Hz hq hch hg
  have o2:=o2 (by omega)
  have e:(qs.take (i+2)).foldl stp []=stp ((qs.take (i+1)).foldl stp []) (qs[i+1]'(by omega)):=by
   rw[List.take_succ,hg,List.foldl_append];rfl
  rw[e]
  refine⟨(z1.cut hP (by omega) o2 (by omega)).sX (hall _ (List.mem_of_getElem? hg)),?_⟩
  show(cut _ _).length+1=(match qs[i+1]? with|some q=>q.1+1|none=>0)
  rw[zy o2 (by omega),hg]
theorem eE.ls {Pt c:Addr}{H H':Hp}{lp:Pos}{ql:Str}(x:eE Pt H H')(hT:cg Pt lp ql H){o:HO}(ho:∀ps,o≠ .dI ps)(h:H c=some o):H' c=some o:=by
 obtain⟨ps,hP⟩:=hT.tab
 exact x c _ (jV h hP (ho ps)) h
theorem Own.dw {Pt:Addr}{H H':Hp}{lp:Pos}{ql:Str}(x:eE Pt H H')(hT:cg Pt lp ql H){v:V}{d:D}{fp:List Addr}(h:Own H v d fp):Own H' v d fp:=
 h.keep (x.tu hT) _ λa ha o e=>x.ls hT (λps z=>by
   obtain hm:=Own.alive _ h a ha
   rcases hm with⟨xs,q⟩|⟨xs,q⟩ <;> rw[e,z] at q <;> cases q) e
theorem fO.dw {Pt:Addr}{H H':Hp}{lp:Pos}{ql:Str}(k:eE Pt H H')(hT:cg Pt lp ql H){S:List Addr}{x y z:Str}{ws:List V}{qs:List (Nat × D)}(h:fO S x y z H ws qs):fO S x y z H' ws qs:=
 h.imp λ_ w q ⟨c,u,f,e,hc,ho,hf⟩=>⟨c,u,f,e,k.ls hT (by intro ps z;cases z) hc,ho.dw k hT,hf⟩
section
variable {P:Program}{w:World}{K:W.Frag}{mg:Str->Option Value}{base:Heap}
variable {C P2 bL:Addr}
theorem WL:b_ ["kind","seen","place"] ["kind","seen"] (aM (top 23)):=cI
theorem agp (T:Tb mg)(XC:tU K mg base bL mD)(qj:Dn K mg "ask_fit" ["kind","seen"] (top 23) HS HW)(iK:Dn K mg "misfit" ["kind","value"] (top 14) rz rA)(GJ:aH P w K mg base aP (4) rz rA ["kind","value"] (zV))(lA:Dm K "__init__" "CantPut.__init__" ["self","way"] (bw 5 0) mD wJ)(wK:aH P w K mg base aP (1) mD wJ ["self","way"] (Ab K bL)):aH P w K mg base (i_ P w) 5 HS HW ["kind","seen"] (WK bL):=by
 refine HB qj.F WL (λvs H Q E h=>?_) (λcdv A outer s H vs Q E hr h=>?_)
 . obtain⟨pk,sl,N,cs,gs,rfl,_⟩:=h
   rfl
 obtain⟨pk,sl,N,cs,gs,rfl,hK,hR,q1,q2⟩:=h
 have nd:=WL.nd
 refine⟨_,(aB (aW (i:=2) nd rfl (Or.inl rfl) (bF GJ (hr.mono (by omega)) rfl iK.m iK.F.kp iK.b .nil bC (aj (pv 0) (aj (pv 1) ao))))
  (aC (aV (aU rT (pv 2) iQ (aQ _)) (aC (z8 rfl XC.xi PySem.F.excBase_ValueError XC.kp wK (hr.mono (by omega)) rfl rfl XC.m lA.b z9 (aj (pv 2) ao))) aZ))),?_⟩
 refine⟨_,rfl,_,rfl,pk,sl,N,cs,gs,rfl,hK,hR,λu H1 s1 hA=>?_⟩
 cases hm:iw N gs with
 |none=>
  rw[hm] at hA
  obtain rfl:u=.non:=hA
  refine⟨_,rfl,rfl,_,rfl,?_⟩
  rw[decide_eq_true rfl]
  exact bU (q1 hm _ s1)
 |some ws=>
  rw[hm] at hA
  obtain⟨p0,rfl,hp0⟩:=hA
  exact⟨_,rfl,rfl,_,rfl,cZ ⟨_,rfl,dF,wI (q2 ws hm) s1 hp0⟩⟩
theorem WM:b_ ["self","kind","source","seen","arms_at","row","deep","tree"] ["self","kind","source","seen"] (aM (bw 28 3)):=cI
theorem agq (T:Tb mg)(UF:nR K mg C kY jC kZ jD k_)(nY:Dm K "put" "Unroll.put" ["self","kind","source","seen"] (bw 28 3) jD wM)(qj:Dn K mg "ask_fit" ["kind","seen"] (top 23) HS HW)(agr:aH P w K mg base (i_ P w) 5 HS HW ["kind","seen"] (WK bL))(nU:Dm K "behind" "Unroll.behind" ["self","kind"] (bw 28 1) jC wC)(HX:aH P w K mg base aP (10) jC wC ["self","kind"] (Hs P2 C))(tX:Dm K "ask_rows" "Unroll.ask_rows" ["self","rows"] (bw 28 4) k_ HF)(ags:aH P w K mg base (i_ P w) 4 k_ HF ["self","rows"] (Ww bL C)):aH P w K mg base (i_ P w) 11 jD wM ["self","kind","source","seen"] (HJ bL P2 C):=by
 refine HB nY.F WM (λvs H Q E h=>?_) (λcdv A outer s H vs Q E hr h=>?_)
 . obtain⟨v,kk,src,sn,N,cs,gs,rfl,_⟩:=h
   rfl
 obtain⟨v,kk,src,sn,N,cs,gs,rfl,⟨⟨dx,hv⟩,⟨u,hkk,hk⟩,hx0,hT,tY⟩,q1,q2⟩:=h
 have nd:=WM.nd
 have hu:=eO hr
 have CT:=UF.ct
 have HY:=UF.b
 have agt:=UF.a
 have hN:=tY.ok
 have Gw:=tY.pP
 refine⟨_,(aB (jj (bF agr (hr.mono (by omega)) rfl qj.m qj.F.kp qj.b .nil (Vz λ_ _ _ z=>z) (aj (xW (pv 0) CT HY HX (hr.mono (by omega)) nU.b .nil bC (aj (pv 1) ao)) (aj (pv 3) ao))))
  (aB (jj (xW (pv 0) CT agt ags (hr.mono (by omega)) tX.b .nil (Vz λ_ _ _ z=>z) (aj (pv 3) ao)))
  (aB (aW (i:=4) nd rfl (Or.inl rfl) (cL (aj (cL ao) ao)))
  (aB (fY PassesOwn.leaving rfl (jY (pv 3)) (cG (i:=5) nd rfl (Or.inl rfl)) (aB (aW (i:=6) nd rfl (Or.inl rfl) (dD hu (pv 5) (gD (pv 0) rfl) (λ_ _=>rfl)))
  (aB (aW (i:=7) nd rfl (Or.inl rfl) (dR (aj (dD hu (pv 5) (gD (pv 0) rfl) (λ_ _=>rfl)) (aj (cL ao) ao))))
  (aB (jj (mY PySem.F.plainAttrs_list PySem.F.slot_list_append PySem.F.type_list_append u6 (aJ bh (pv 4) (pv 6) (λ_ _=>rfl)) (aj (pv 7) ao)))
  (aC (aW (i:=4) nd rfl (Or.inl rfl) (aL Ci (uZ Cd (pv 4) uX (uY (aL gC (pv 6) ak))) (cL (aj (aJ bV (pv 7) ak (λ_ _=>rfl)) ao)))))))))
  (aC (bf (aJ bh (aJ bh (pv 4) ak (λ_ _=>rfl)) ak (λ_ _=>rfl)))))))),?_⟩
 refine⟨_,rfl,v,dx,_,rfl,hv,rfl,_,rfl,v,kk,dx,N,u,rfl,hv,hkk,hk,hN,hx0,hT,λr H1 nQ hT1 tZ=>?_⟩
 have Ae:=tY.dw nQ hT
 refine⟨_,rfl,r,sn,N,cs,gs,rfl,tZ,Ae,λhm H2 s2=>?_,λws hm H_ p H2 s2 hdx hp=>q2 ws (by unfold dW;rw[hm]) H_ p H2 ⟨nQ.trans (Kp.of s2),hT1.same s2⟩ hdx hp⟩
 have hv1:=nQ.ls hT (by intro ps z;cases z) hv
 have ed:dW N gs=iJ N gs:=by unfold dW;rw[hm]
 rw[ed] at q1 q2
 refine⟨_,rfl,v,dx,_,rfl,s2 _ _ hv1,rfl,_,rfl,v,sn,dx,N,cs,gs,rfl,s2 _ _ hv1,Ae.same s2,hm,λhd H3 s3=>?_,λws hd H_ p H3 s3 hdx hp=>q2 ws hd H_ p H3 ⟨nQ.trans (Kp.of (s2.trans s3)),hT1.same (s2.trans s3)⟩ hdx hp⟩
 have q1:=q1 hd
 have pX:=s2.trans s3
 have nW:=pX _ _ hv1
 obtain⟨d,lu,Ia,hLd⟩:=ae7 hm hd tY
 have WQ:fO [] N.x N.y N.z H3 (cs.map V.ref) (flat 0 d):=(Ia.dw nQ hT).same pX
 have WR:=(Ae.same pX).at_
 have hL:(flat 0 d).length<=60:=by
  have:=tY.gl.1
  omega
 have qA:∀v' H' fp,eE P2 H H'->cg P2 d9 d_ H'->Own H' v' d fp->Q v' H':=λv' H' fp k1 k2 k3=>q1 d v' H' fp lu hLd Ia k1 k2 k3
 have hall:∀q∈flat 0 d,gM N.kp q.2:=lu.all 0
 obtain⟨t,rs,hfl,hch⟩:=Tt lu
 have hT3:=hT1.same pX
 have kp3:eE P2 H H3:=nQ.trans (Kp.of pX)
 have hxy:=hN.xy
 have hxz:=hN.xz
 have hyz:=hN.yz
 generalize cs.map V.ref=ws at *
 generalize N.x=x at *
 generalize N.y=y at *
 generalize N.z=z at *
 generalize N.kp=kp at *
 clear q2 tY Ae tZ Ia hLd
 have hpb:=Tr lu
 generalize hqs:flat 0 d=qs at *
 have hwl:=WQ.1
 have fz:=HN (P:=gM kp) (λt h=>h.2) hfl hch hall hL
 refine⟨wZ,λF hF=>⟨dF,λaa haa=>?_⟩⟩
 obtain⟨H4,pC,s4,eF⟩:=new1 hF (.lst [])
 rw[pC] at haa ⊢
 obtain⟨H5,wD,s5,eaa⟩:=new1 haa (.lst [.ref F])
 rw[wD]
 clear pC wD
 have WT:=s4.trans s5
 have agy:F≠aa:=aR eF haa
 refine⟨_,rfl,sn,rfl,⟨_,aq.of (WT _ _ WR)⟩,qH (xs:=ws) (λi σ H'=>∃x5 x6 x7 jc fs,σ=[some (.ref v),some (.ref kk),some src,some (.ref sn),some (.ref jc),x5,x6,x7]/\Same H3 H'/\cT H' fs []/\lq fs/\lg fs=(qs.take i).foldl stp []/\(∀f∈fs,H3 f.l=none/\f.l≠F/\f.l≠jc)/\jc≠F/\
  H' jc=some (.lst (.ref F::fs.reverse.map λf=>V.ref f.l))/\(i=0->fs=[]/\H' F=some (.lst []))/\(1<=i->∃t0 ts,H' F=some (.lst [.ref t0])/\fs.map Fr.t=ts++[t0])) ?_ ?_ ?_ ?_⟩
 . exact⟨_,_,_,aa,[],rfl,WT,trivial,⟨List.nodup_nil,λf hf=>nomatch hf⟩,rfl,(λf hf=>nomatch hf),Ne.symm agy,eaa,λ_=>⟨rfl,s5 _ _ eF⟩,λh=>absurd h (by decide)⟩
 . rintro i σ H' _ ⟨x5,x6,x7,jc,fs,rfl,sm,_⟩
   exact aq.of (sm _ _ WR)
 . rintro i wv σ H' hw ⟨x5,x6,x7,jc,fs,rfl,sm,Af,hA,hz,hfr,WW,Ag,h0,h1⟩
   obtain⟨qq,oO,c,u',f',rfl,hc,ho,hf'⟩:=WQ.at hw
   obtain⟨o1,o2,o3⟩:=Hz hfl hch oO
   have hi:i<qs.length:=(List.getElem?_eq_some_iff.mp oO).1
   have gy:cC H' c (.str y) (some (.int qq.1)):=by exact zT hxy (sm _ _ hc)
   have gz:cC H' c (.str z) (some u'):=by exact U5 hxz hyz (sm _ _ hc)
   have hv':=sm _ _ nW
   refine⟨_,rfl,_,rfl,v,C,dx,_,_,rfl,hv',UF.ct,UF.nd,rfl,c,_,rfl,gy,?_⟩
   refine⟨_,rfl,_,rfl,v,C,dx,_,_,rfl,hv',UF.ct,UF.nk,rfl,c,_,rfl,gz,wZ,λl' hl'=>⟨gO,λt' ht'=>?_⟩⟩
   obtain⟨H6,wF,s6,el'⟩:=new1 hl' (.lst [])
   rw[wF] at ht' ⊢
   obtain⟨H7,wG,s7,Ah⟩:=new1 ht' (.tup [u',.ref l'])
   rw[wG]
   clear wF wG
   have wN:=s6.trans s7
   have Ai:=s7 _ _ el'
   have Ib:=sm.trans wN
   have Aj:=wN _ _ Ag
   have WX:=ho.same Ib
   have hl3:H3 l'=none:=by
    cases e:H3 l' with
    |none=>rfl
    |some o=>rw[sm _ _ e] at hl';cases hl'
   have W0:l' ∉ f':=λz=>by
    obtain⟨o,eo⟩:=(Own.alive _ ho l' z).ex
    rw[hl3] at eo;cases eo
   have Ie:l'≠F:=λz=>by
    by_cases e0:i=0
    . rw[z,(h0 e0).2] at hl';cases hl'
    . obtain⟨t0,ts,hF',_⟩:=h1 (by omega)
      rw[z,hF'] at hl';cases hl'
   have hla:l'≠jc:=λz=>by rw[z,Ag] at hl';cases hl'
   have htk:(qs.take (i+1)).foldl stp []=stp ((qs.take i).foldl stp []) qq:=by rw[List.take_succ,oO,List.foldl_append];rfl
   have hdl:fs.length=Aa qs i:=by
    by_cases e0:i=0
    . rw[(h0 e0).1,e0];rfl
    . rw[<-Hy,hz];exact(fz i (by omega) (by omega)).2
   have apl:fs.length<=60:=by
    by_cases e0:i=0
    . rw[(h0 e0).1];decide
    . have:=(fz i (by omega) (by omega)).1.len
      rw[<-hz,Hy] at this;omega
   dsimp only[dG]
   refine j9 (A:=Bp _) (λσ' H8=>σ'=[some (.ref v),some (.ref kk),some src,some (.ref sn),some (.ref jc),some (.ref c),some (.int qq.1),some (.ref t')]/\∃fs',Same H3 H8/\cT H8 (⟨l',t',[],.nil,[],u',qq.2,f'⟩::fs') []/\lq (⟨l',t',[],.nil,[],u',qq.2,f'⟩::fs')/\lg (⟨l',t',[],.nil,[],u',qq.2,f'⟩::fs')=(qs.take (i+1)).foldl stp []/\(∀f∈fs',H3 f.l=none/\f.l≠F)/\
    H8 jc=some (.lst (.ref F::fs.reverse.map λf=>V.ref f.l))/\H8 t'=some (.tup [u',.ref l'])/\H8 l'=some (.lst [])/\(V.ref F::fs.reverse.map λf=>V.ref f.l).take (qq.1+1)=V.ref F::fs'.reverse.map (λf=>V.ref f.l)/\∃t0 ts,H8 F=some (.lst [.ref t0])/\t'::fs'.map Fr.t=ts++[t0]) ?_ (λhB=>?_)
   . rintro _ H8 ⟨rfl,fs',sm8,W2,hA8,hz8,W3,agC,ht8,hl8,W4,t0,ts,W5,hts⟩
     refine⟨_,rfl,_,rfl,_,_,rfl,rfl,_,rfl,jc,_,rfl,aq.of agC,λp1 hp1=>?_⟩
     rw[show((qq.1:Int)+1)=((qq.1+1:Nat):Int) from rfl,T5,W4]
     obtain⟨H9,W6,s9,e9⟩:=new1 hp1 (.lst (V.ref F::fs'.reverse.map (λf=>V.ref f.l)))
     rw[W6]
     clear W6
     refine⟨_,rfl,t',_,_,_,rfl,rfl,aN.of (s9 _ _ ht8),rfl,dF,λp2 hp2=>?_⟩
     obtain⟨wO,W7,Ig,e10⟩:=new1 hp2 (.lst [.ref l'])
     rw[W7]
     clear W7
     have hfl':fs'.length<=60:=by
      have:=congrArg List.length W4
      rw[List.length_take,List.length_cons,List.length_cons,List.length_map,List.length_map,List.length_reverse,List.length_reverse] at this
      omega
     refine⟨p1,p2,_,_,rfl,rfl,Ig _ _ e9,e10,Nat.le_of_lt (dX (by rw[List.length_cons,List.length_map,List.length_reverse];show _+1+1<=_;omega)),λa2 ha2=>?_⟩
     obtain⟨W8,agE,wQ,e11⟩:=new1 ha2 (.lst ((V.ref F::fs'.reverse.map (λf=>V.ref f.l))++[.ref l']))
     rw[agE]
     have Ih:=s9.trans (Ig.trans wQ)
     have hne:∀c o,H8 c=some o->c≠a2:=λc o h=>aR ((s9.trans Ig) _ _ h) ha2
     refine⟨_,_,_,a2,⟨l',t',[],.nil,[],u',qq.2,f'⟩::fs',rfl,sm8.trans Ih,W2.same Ih,hA8,hz8,λf hf=>?_,Ne.symm (hne _ _ W5),?_,λh=>absurd h (by omega),λ_=>⟨t0,ts,Ih _ _ W5,hts⟩⟩
     . have mu8:=W2.alive f.l ⟨f,hf,.inl rfl⟩
       obtain⟨o,eo⟩:=mu8.ex
       rcases List.mem_cons.mp hf with e|e
       . rw[e] at eo ⊢
         exact⟨hl3,Ie,hne _ _ eo⟩
       . exact⟨(W3 f e).1,(W3 f e).2,hne _ _ eo⟩
     . rw[e11,List.reverse_cons (a:=(⟨l',t',[],.nil,[],u',qq.2,f'⟩:Fr)),List.map_append];rfl
   . by_cases e0:i=0
     . obtain⟨rfl,hF'⟩:=h0 e0
       have hq0:=o1 e0
       have Ii:=wN _ _ hF'
       refine⟨_,rfl,_,rfl,jc,_,_,.ref F,rfl,rfl,aq.of Aj,by rw[hq0];exact iG (j:=0) rfl,.inl ⟨rfl,_,aq.of Ii⟩,_,rfl,F,[],_,rfl,rfl,Ii,by decide,?_⟩
       have muF:Mu H7 F:=.inl ⟨_,Ii⟩
       have Ij:Tu H7 (upd H7 F (.lst ([]++[.ref t']))):=Tu.wr λys z=>muF.vJ ys z
       have hoF:Own (upd H7 F (.lst ([]++[.ref t']))) u' qq.2 f':=WX.keep Ij _ λa ha o h=>by
        have hne:a≠F:=(Own.alive _ ho a ha).ne hF
        rw[au hne];exact h
       refine hB _ _ ⟨rfl,[],λa o h=>by rw[au (aR h hF)];exact Ib a o h,⟨by rw[au Ie];exact Ai,by unfold aX;exact⟨rfl,rfl⟩,Ij _ _ Ah,hoF,trivial⟩,⟨by simp,λf hf g hg=>?_⟩,?_,(λf hf=>nomatch hf),by rw[au WW];exact Aj,Ij _ _ Ah,by rw[au Ie];exact Ai,by rw[hq0];rfl,t',[],aD,rfl⟩
       . rw[List.mem_singleton.mp hf,List.mem_singleton.mp hg]
         exact⟨by simp,W0⟩
       . rw[htk,e0]
         show _=sX qq.2 (cut qq.1 [])
         rw[hq0];rfl
     . obtain⟨t0,ts,hF',ht⟩:=h1 (by omega)
       have o2:=o2 (by omega)
       obtain⟨f,r,c1,c2,c3,c4,c5,c6⟩:=(Af.same wN).cut (e:=qq.1) o2 (by omega) hA
       have jB:(f::r).length=qq.1:=by
        have:=congrArg List.length c4
        rw[List.length_map,List.length_drop,List.length_map] at this
        omega
       have Ik:=ago c4
       have agJ:(f::r).reverse.map (λf=>V.ref f.l)=(r.reverse.map λf=>V.ref f.l)++[.ref f.l]:=by rw[List.reverse_cons,List.map_append];rfl
       have hix:(V.ref F::fs.reverse.map λf=>V.ref f.l)[qq.1]? =some (.ref f.l):=by
        obtain⟨e,he⟩:∃e,qq.1=e+1:=⟨qq.1 - 1,by omega⟩
        rw[he] at Ik ⊢
        show(fs.reverse.map λf=>V.ref f.l)[e]? =_
        have hre:(r.reverse.map λf=>V.ref f.l).length=e:=by
         rw[List.length_map,List.length_reverse]
         rw[he,List.length_cons] at jB;omega
        rw[<-List.getElem?_take_of_lt (show e<e+1 by omega),Ik,agJ,List.getElem?_append_right (by omega),hre,Nat.sub_self]
        rfl
       have Il:H7 f.l=some (.lst f.vs):=by have:=c1.1;rwa [List.append_nil] at this
       have hvs:f.vs.length<=60:=by
        have zi:=(fz i (by omega) (by omega)).1.cut (λt h=>h.2) (by omega) (e:=qq.1) o2 (by rw[(fz i (by omega) (by omega)).2];omega)
        rw[<-hz,<-c3] at zi
        have:=(zi.fr (f.x,f.ds) List.mem_cons_self).2.2.2.1
        have h3:=aX.len _ c1.2.1
        simp only at this;omega
       have old:∀g∈f::r,∃g0∈fs,g.l=g0.l:=λg hg=>by
        have:g.l∈(f::r).map Fr.l:=List.mem_map_of_mem (f:=Fr.l) hg
        rw[c4] at this
        obtain⟨g0,h1',h2'⟩:=List.mem_map.mp (List.mem_of_mem_drop this)
        exact⟨g0,h1',h2'.symm⟩
       have hfresh:∀g∈f::r,H3 g.l=none/\g.l≠F/\g.l≠jc:=λg hg=>by
        obtain⟨g0,h1',h2'⟩:=old g hg
        rw[h2'];exact hfr g0 h1'
       have nA:¬Ad (f::r) l':=λz=>by
        obtain⟨o,eo⟩:=(Af.alive l' (c6 l' z)).ex
        rw[hl'] at eo;cases eo
       obtain⟨k1,k2⟩:=c1.push c2 Ah Ai WX nA W0 λg hg z=>by
        obtain⟨o,eo⟩:=(Own.alive _ ho g.l z).ex
        rw[(hfresh g hg).1] at eo;cases eo
       obtain⟨ff1,ff2,ff3⟩:=hfresh f List.mem_cons_self
       have agO:l'≠f.l:=λz=>nA ⟨f,List.mem_cons_self,.inl z⟩
       have muf:Mu H7 f.l:=.inl ⟨_,Il⟩
       have tuf:Tu H7 (upd H7 f.l (.lst (f.vs++[.ref t']))):=Tu.wr λys z=>muf.vJ ys z
       have htl:ts.length+1=fs.length:=by
        have:=congrArg List.length ht
        rw[List.length_map,List.length_append] at this
        simpa using this.symm
       refine⟨_,rfl,_,rfl,jc,_,_,.ref f.l,rfl,rfl,aq.of Aj,iG hix,.inl ⟨rfl,_,aq.of Il⟩,_,rfl,f.l,f.vs,_,rfl,rfl,Il,dX (by omega),?_⟩
       refine hB _ _ ⟨rfl,f::r,λa o h=>by rw[au (aR h ff1)];exact Ib a o h,k1,k2,?_,λg hg=>⟨(hfresh g hg).1,(hfresh g hg).2.1⟩,by rw[au (Ne.symm ff3)];exact Aj,tuf _ _ Ah,by rw[au agO];exact Ai,?_,t0,t'::ts.drop (fs.length - qq.1),by rw[au (Ne.symm ff2)];exact wN _ _ hF',?_⟩
       . rw[htk]
         show(_,Ds.nil)::lg (f::r)=_
         rw[c3,hz];rfl
       . show V.ref F::(fs.reverse.map λf=>V.ref f.l).take qq.1=_
         rw[Ik]
       . rw[c5,ht,List.drop_append_of_le_length (by omega)];rfl
 . rintro σ H' ⟨x5,x6,x7,jc,fs,rfl,sm,Af,hA,hz,hfr,WW,Ag,h0,h1⟩
   obtain⟨t0,ts,hF',ht⟩:=h1 (by rw[hwl,hfl,List.length_cons];omega)
   rw[hwl,List.take_length] at hz
   obtain⟨fp,hO,_⟩:=Af.fin hA ht
   rw[hz,hpb] at hO
   exact⟨_,rfl,jc,_,_,_,rfl,rfl,aq.of Ag,iG (j:=0) rfl,F,_,_,_,rfl,rfl,aq.of hF',rfl,qA _ _ fp (kp3.trans (Kp.of sm)) (hT3.same sm) hO⟩
end
end Pb
namespace L2
open PySem PySem.Spec PyProof.Rows
theorem W9:∀{cs:List Addr}{its:List Value},Vals (cs.map V.ref) its->its=cs.map Value.ref
 |[],_,h=>by cases h;rfl
 |c::r,_,h=>by
  cases h with
  |cons h t=>rw[W9 (cs:=r) t,show _=Value.ref c from h];rfl
theorem agR {X:Cx}:eZ X (.builtin "isinstance") (λxs H Q=>∃a C dd tp,∃cs:List Addr,∃b,xs=[.ref a,.ref tp]/\H a=some (jt a C dd)/\iU X.K C/\H tp=some (.tup (cs.map V.ref))/\W.kitAny X.K (.ref C) (cs.map Value.ref)=some b/\Q (.bl b) H):=by
 intro pins s σ H xs us Q I r h
 obtain⟨a,C,dd,tp,cs,b,rfl,ha,Z,htp,e,q⟩:=h
 obtain⟨u,c',rfl,ru,tQ⟩:=vals2 r
 cases ru
 cases tQ
 obtain⟨o,ho,hc,_⟩:=(I.hok a _ ha).1
 obtain⟨its,rv,⟨ot,het,hct,n,hdt⟩,_⟩:=I.tuple (aN.of htp)
 obtain rfl:=W9 rv
 obtain⟨oc,od,oda,osl⟩:=ot
 have hct:oc=.type "tuple":=hct
 have hdt:oda=.seq (cs.map Value.ref).toArray n:=hdt
 subst hct
 subst hdt
 exact W.kia_tup (Rh Z) I.cN ⟨o,ho,hc⟩ het e (by intro z;cases z) λtk=>⟨.bl b,H,I.tok tk,rfl,q⟩
theorem agS {X:Cx}{K:W.Frag}(hK:X.K=K):eZ X (.builtin "isinstance") (λxs H Q=>∃a C dd tp,∃cs:List Addr,∃b,xs=[.ref a,.ref tp]/\H a=some (jt a C dd)/\iU K C/\H tp=some (.tup (cs.map V.ref))/\W.kitAny K (.ref C) (cs.map Value.ref)=some b/\Q (.bl b) H):=by
 subst hK
 exact agR
theorem W_ {X:Cx}{K:W.Frag}(hK:X.K=K):eZ X (.builtin "isinstance") (λxs H Q=>∃a C dd c cv b,xs=[.ref a,c]/\RelV c cv/\H a=some (jt a C dd)/\iU K C/\W.kitOne K (.ref C) cv=some b/\Q (.bl b) H):=by
 subst hK
 exact afz
theorem agT:bootBuiltins "ValueError"=some (.type "ValueError"):=by decide +kernel
end L2
namespace Pb
open PySem L2 PyProof.Rows
theorem agU {K:PySem.W.Frag}{a b:Addr}{xs ys:List V}{g:TG}{tb:TS}{D:Ends}{σ:L2.St}{H:Hp}(Pv:Nat->L2.St->Hp->Prop)(el:xs.length=ys.length)(h0:Pv 0 σ H)(hl:∀i σ H,i<=xs.length->Pv i σ H->aq K H a xs/\aq K H b ys)
 (hs:∀(i:Nat) x y σ H p,xs[i]? =some x->ys[i]? =some y->Pv i σ H->H p=none->g (.ref p) σ (upd H p (.tup [x,y])) λσ2 H2=>tb { D with nx:=Pv (i+1),ct:=Pv (i+1),bk:=D.nx } σ2 H2) (hd:∀σ H,Pv xs.length σ H->D.nx σ H):
 ∃W:Nat->Nat->L2.St->Hp->Prop,(∃m,W 0 m σ H)/\∀i m σ H,W i m σ H->
  ((vA K a b).stop i H/\D.nx σ H)\/((vA K a b).go i H/\∃N:L2.St->Hp->Prop,(∀σ' H',N σ' H'->∃m',m'<m/\W (i+1) m' σ' H')/\∀x H',(vA K a b).mO i H x H'->g x σ H' λσ2 H2=>tb { D with nx:=N,ct:=N,bk:=D.nx } σ2 H2):=by
 refine⟨λi m σ H=>m=xs.length - i/\i<=xs.length/\Pv i σ H,⟨xs.length,by simp,Nat.zero_le _,h0⟩,?_⟩
 rintro i m σ H ⟨rfl,hi,p⟩
 obtain⟨l1,l2⟩:=hl i σ H hi p
 by_cases hlt:i<xs.length
 . refine .inr ⟨⟨xs,ys,xs[i],ys[i],l1,l2,by simp[hlt],List.getElem?_eq_getElem (by omega)⟩,Pv (i+1),λσ' H' p'=>⟨xs.length - (i+1),by omega,rfl,hlt,p'⟩,λx H' y=>?_⟩
   obtain⟨q,x1,x2,hq,rfl,e1,e2,rfl⟩:=y
   exact hs i x1 x2 σ H q (e1 xs l1) (e2 ys l2) p hq
 . have e:i=xs.length:=by omega
   subst e
   exact .inl ⟨⟨xs,ys,l1,l2,.inl (Nat.le_refl _)⟩,hd σ H p⟩
structure Xa (K:W.Frag) (mg:Str->Option Value) (cV bL t_ uc ud:Addr):Prop where
 m:mg "ViewError"=some (.ref cV)
 ty:W.typeIn K (.ref cV)=some (.type "type")
 is:(W.clsIn K cV).isSome=true
 bx:W.subIn K (.ref cV) (.type "BaseException")=some true
 sub:W.subIn K (.ref bL) (.ref cV)=some true
 kv:W.kitOne K (.ref bL) (.type "ValueError")=some true
 kc:W.kitOne K (.ref bL) (.ref bL)=some true
 kn:W.kitAny K (.ref bL) [.ref t_,.ref uc,.ref ud]=some false
 nv:mg "NoView"=some (.ref t_)
 nf:mg "NoFit"=some (.ref uc)
 np:mg "NoPaper"=some (.ref ud)
 ve:mg "ValueError"=none
noncomputable def rD (w:V):Prop:=(∃z,w=.int z)\/∃s,w=.str s
theorem agV {N:bI}{g:GR}{ws:List V}(h:gq N g=some ws):ws.length<=1/\∀w∈ws,rD w:=by
 cases g with
 |none=>cases h;exact⟨Nat.zero_le _,λw hw=>absurd hw (by simp)⟩
 |some ce=>
  obtain⟨j,hj⟩:=wg (f:=iu N ce) h
  unfold iu at hj
  split at hj
  . split at hj
    . cases hj
    . cases hj;exact⟨Nat.le_refl _,λw hw=>.inr ⟨_,List.mem_singleton.mp hw⟩⟩
  . cases hj
theorem agW {N:bI}{gs:List GR}{ws:List V}(h:iw N gs=some ws):ws.length<=2/\∀w∈ws,rD w:=by
 obtain⟨i,hi⟩:=wg (f:=dU N gs) h
 cases hg:gs[i]? with
 |none=>unfold dU at hi;rw[hg] at hi;cases hi
 |some g=>
  cases hr:gq N g with
  |some p=>
   rw[zP hg hr] at hi
   cases hi
   obtain⟨a,b⟩:=agV hr
   refine⟨by rw[List.length_cons];omega,λw hw=>?_⟩
   rcases List.mem_cons.mp hw with e|e
   . exact .inl ⟨_,e⟩
   . exact b w e
  |none=>
   rw[zQ hg hr] at hi
   split at hi
   . cases hi;exact⟨by show 1<=2;decide,λw hw=>.inl ⟨_,List.mem_singleton.mp hw⟩⟩
   . cases hi
theorem agX {N:bI}{gs:List GR}{ws:List V}(h:dW N gs=some ws):ws.length<=2/\∀w∈ws,rD w:=by
 unfold dW at h
 cases hm:iw N gs with
 |some p=>rw[hm] at h;cases h;exact agW hm
 |none=>
  rw[hm] at h
  have h:iJ N gs=some ws:=h
  unfold iJ at h
  have two:∀{a b:V},rD a->rD b->[a,b].length<=2/\∀w∈[a,b],rD w:=λ{a b} ha hb=>⟨Nat.le_refl _,λw hw=>by
   simp only[List.mem_cons,List.not_mem_nil,or_false] at hw
   rcases hw with rfl|rfl
   . exact ha
   . exact hb⟩
  split at h
  . cases h;exact⟨Nat.zero_le _,λw hw=>absurd hw (by simp)⟩
  . obtain⟨i,hi⟩:=wg h
    unfold iY at hi
    split at hi
    . cases hi;exact two (.inl ⟨_,rfl⟩) (.inr ⟨_,rfl⟩)
    . split at hi
      . cases hi;exact two (.inl ⟨_,rfl⟩) (.inr ⟨_,rfl⟩)
      . cases hi
noncomputable def Xb:Sp:=λvs H Q _=>∃p q' pl,vs=[.ref p,.ref q']/\H p=some (.lst pl)/\H q'=some (.lst pl)/\(∀w∈pl,rD w)/\∀H',Same H H'->Q (.bl true) H'
noncomputable def Xc (bL P2 C:Addr):Sp:=λvs H Q _=>∃v kk src sn N cs gs,vs=[.ref v,.ref kk,src,.ref sn]/\Ac P2 C v kk sn N cs gs H/\
 (dW N gs=none->∀tq d v' H' fp,dM (gM N.kp) d->(flat 0 d).length=gs.length->fO [] N.x N.y N.z H (cs.map V.ref) (flat 0 d)->eE P2 H H'->cg P2 d9 d_ H'->Own H' v' d fp->H' tq=some (.tup [.str "done",v'])->Q (.ref tq) H')/\
 ∀ws,dW N gs=some ws->∀tq p H',eE P2 H H'->cg P2 d9 d_ H'->H' tq=some (.tup [.str "refused",.ref p])->H' p=some (.lst ws)->Q (.ref tq) H'
noncomputable def Xd (bL P2 C:Addr):Sp:=λvs H Q _=>∃v kk src sn N cs gs,vs=[.ref v,.ref kk,src,.ref sn]/\Ac P2 C v kk sn N cs gs H/\(∃ws,dW N gs=some ws)/\∀H',eE P2 H H'->cg P2 d9 d_ H'->Q (.bl true) H'
section
variable {P:Program}{w:World}{K:W.Frag}{mg:Str->Option Value}{base:Heap}
variable {C P2 bL cV t_ uc ud:Addr}
theorem Xe:b_ ["_law_found","_law_due_here","_law_one","_law_other"] ["_law_found","_law_due_here"] (aM (top 42)):=cI
theorem agY (T:Tb mg)(qm:Dn K mg "_law_way" ["_law_found","_law_due_here"] (top 42) Im Io):aH P w K mg base aP (1) Im Io ["_law_found","_law_due_here"] (Xb):=by
 refine qm.F.ok Xe (λvs H Q E h=>?_) (λcdv A outer s H vs Q E hr h=>?_)
 . obtain⟨p,q',pl,rfl,_⟩:=h
   rfl
 obtain⟨p,q',pl,rfl,hp,hq,hpl,q⟩:=h
 have nd:=Xe.nd
 refine⟨_,(aB (aV (PW.pt (lG (ji (gR (bN gY (by rfl) T.fH boot_isinstance (aj (pv 0) (aj (gB (v:=.ty "list") rfl T.yV boot_list rfl) ao))))) (lF (aU jl (bN gG (by rfl) T.dY PySem.boot_len (aj (pv 0) ao)) (bN gG (by rfl) T.dY PySem.boot_len (aj (pv 1) ao)) (aQ _))))) (aC (bf iM)) aZ)
  (aB (fY PassesOwn.never rfl (Q7 rfl T.R0 (aj (pv 0) (aj (pv 1) ao))) (lK rfl (eY (cG (i:=2) nd rfl (Or.inl rfl)) (eY (cG (i:=3) nd rfl (Or.inl rfl)) lJ))) (aB (aV (PW.pt (lG (gR (bN gY (by rfl) T.fH boot_isinstance (aj (pv 2) (aj (gB (v:=.ty "bool") rfl T.yU boot_bool rfl) ao)))) (lF (aU jl (bN gY (by rfl) T.fH boot_isinstance (aj (pv 2) (aj (gB (v:=.ty "int") rfl T.vN boot_int rfl) ao))) (bN gY (by rfl) T.fH boot_isinstance (aj (pv 3) (aj (gB (v:=.ty "int") rfl T.vN boot_int rfl) ao))) (aQ _))))) (aC (bf iM)) aZ)
  (aC (aV (aU jl (pv 2) (pv 3) (aQ _)) (aC (bf iM)) aZ))))
  (aC (bf iM)))),?_⟩
 refine⟨_,rfl,_,_,_,true,rfl,.lst hp,rfl,true,rfl,bU ?_⟩
 refine⟨_,rfl,p,_,rfl,.inl (aq.of hp),_,rfl,q',_,rfl,.inl (aq.of hq),rfl,_,rfl,oM rfl ?_⟩
 refine⟨_,rfl,_,rfl,p,q',rfl,⟨_,aq.of hp⟩,⟨_,aq.of hq⟩,agU (xs:=pl) (ys:=pl) (λi σ H'=>Same H H'/\∃x y,σ=[some (.ref p),some (.ref q'),x,y]) rfl ⟨Same.refl _,_,_,rfl⟩ ?_ ?_ ?_⟩
 . rintro i σ H' _ ⟨s1,_⟩
   exact⟨aq.of (s1 _ _ hp),aq.of (s1 _ _ hq)⟩
 . rintro i x y σ H' p2 hx hy ⟨s1,z1,z2,rfl⟩ hp2
   rw[hx] at hy
   cases hy
   refine⟨p2,_,rfl,aN.of aD,rfl,_,_,rfl,_,_,rfl,rfl,?_⟩
   rcases hpl x (List.mem_of_getElem? hx) with⟨z,rfl⟩|⟨z,rfl⟩
   . refine⟨_,rfl,_,_,_,false,rfl,.int _,rfl,false,rfl,bU ?_⟩
     refine⟨_,rfl,_,_,_,true,rfl,.int _,rfl,_,rfl,_,_,_,true,rfl,.int _,rfl,rfl,_,rfl,oM rfl ?_⟩
     refine⟨_,rfl,_,rfl,rfl,_,rfl,oM rfl ?_⟩
     exact⟨s1.trans (Same.new hp2),_,_,rfl⟩
   . refine⟨_,rfl,_,_,_,false,rfl,.str _,rfl,false,rfl,bU ?_⟩
     refine⟨_,rfl,_,_,_,false,rfl,.str _,rfl,_,rfl,_,_,_,false,rfl,.str _,rfl,rfl,_,rfl,oM rfl ?_⟩
     refine⟨_,rfl,_,rfl,rfl,_,rfl,oM rfl ?_⟩
     exact⟨s1.trans (Same.new hp2),_,_,rfl⟩
 . rintro σ H' ⟨s1,_⟩
   exact q _ s1
theorem Xf:b_ ["_law_view","_law_kind_here","_law_source","_law_seen","_law_told","e"] ["_law_view","_law_kind_here","_law_source","_law_seen"] (aM (top 44)):=cI
theorem agZ (T:Tb mg)(UF:nR K mg C kY jC kZ jD k_)(XC:tU K mg base bL mD)(lB:Dn K mg "_law_put" ["_law_view","_law_kind_here","_law_source","_law_seen"] (top 44) Ip Ir)(nY:Dm K "put" "Unroll.put" ["self","kind","source","seen"] (bw 28 3) jD wM)(Iu:aH P w K mg base (i_ P w) 11 jD wM ["self","kind","source","seen"] (HJ bL P2 C)):aH P w K mg base aP (12) Ip Ir ["_law_view","_law_kind_here","_law_source","_law_seen"] (Xc bL P2 C):=by
 have CT:=UF.ct
 have Iv:=UF.p
 refine lB.F.ok Xf (λvs H Q E h=>?_) (λcdv A outer s H vs Q E hr h=>?_)
 . obtain⟨v,kk,src,sn,N,cs,gs,rfl,_⟩:=h
   rfl
 obtain⟨v,kk,src,sn,N,cs,gs,rfl,hI,q1,q2⟩:=h
 have nd:=Xf.nd
 let Ek:XK:=λCv dd H'=>Cv=.ref bL/\∃dx p,dd=some dx/\H' dx=some (.xd [("way",.ref p)])/\∀tq H2,Same H' H2->H2 tq=some (.tup [.str "refused",.ref p])->Q (.ref tq) H2
 have Iw:∀C' dd H',Ek (.ref C') dd H'->W.subIn K (.ref C') (.ref bL)=some true:=λC' dd H' z=>by rw[z.1];exact XC.sub
 refine⟨_,(aB (VB (Ek:=Ek) (i:=5) rfl rfl (afp (i:=4) nd rfl (.inl rfl) (afD (VG (afB bJ) (VG (VH (pv 0) CT Iv Iu (hr.mono (by omega)) nY.b (aj (pv 1) (aj (pv 2) (aj (pv 3) ao)))) afC)))) rfl XC.m XC.ty XC.is XC.bx Iw nd rfl rfl (λa=>(aC (aW (i:=4) nd rfl (Or.inl rfl) (dR (aj bJ (aj (agh (K:=K) rfl (pv 5) rfl) ao)))))))
  (aC (bf (pv 4)))),?_⟩
 refine⟨?_,λa C' dd H' na hE=>?_⟩
 . obtain⟨dv,hv⟩:=hI.v
   refine⟨_,rfl,v,dv,_,rfl,hv,rfl,_,rfl,_,rfl,_,rfl,v,kk,src,sn,N,cs,gs,rfl,hI,λhd d v' H1 fp t1 t2 t3 k1 k2 k3=>?_,λws hd dx p H1 hk hdx hp=>⟨rfl,dx,p,rfl,hdx,λtq H2 s2 gw=>q2 ws hd tq p H2 (hk.1.trans (Kp.of s2)) (hk.2.same s2) gw (s2 _ _ hp)⟩⟩
   exact⟨gO,λtq gw=>⟨_,rfl,q1 hd tq d v' _ fp t1 t2 t3 (k1.trans (Kp.of (Same.new gw))) (k2.same (Same.new gw)) (k3.same (Same.new gw)) aD⟩⟩
 . obtain⟨e,dx,p,rfl,hdx,q⟩:=hE
   injection e with e
   subst e
   have s1:Same H' (upd H' a (jt a C' (some dx))):=Same.new na
   refine⟨_,rfl,a,C',dx,_,.ref p,rfl,aD,s1 _ _ hdx,XC.cls,XC.fld,rfl,gO,λtq gw=>⟨_,rfl,q tq _ (s1.trans (Same.new gw)) aD⟩⟩
theorem Xg:b_ ["_law_view","_law_kind_here","_law_source","_law_seen","_law_kept","e"] ["_law_view","_law_kind_here","_law_source","_law_seen"] (aM (top 45)):=cI
theorem ag0 (T:Tb mg)(UF:nR K mg C kY jC kZ jD k_)(XC:tU K mg base bL mD)(XV:Xa K mg cV bL t_ uc ud)(qp:Dn K mg "_law_class" ["_law_view","_law_kind_here","_law_source","_law_seen"] (top 45) Iz IK)(nY:Dm K "put" "Unroll.put" ["self","kind","source","seen"] (bw 28 3) jD wM)(Iu:aH P w K mg base (i_ P w) 11 jD wM ["self","kind","source","seen"] (HJ bL P2 C)):aH P w K mg base aP (12) Iz IK ["_law_view","_law_kind_here","_law_source","_law_seen"] (Xd bL P2 C):=by
 have CT:=UF.ct
 have Iv:=UF.p
 refine qp.F.ok Xg (λvs H Q E h=>?_) (λcdv A outer s H vs Q E hr h=>?_)
 . obtain⟨v,kk,src,sn,N,cs,gs,rfl,_⟩:=h
   rfl
 obtain⟨v,kk,src,sn,N,cs,gs,rfl,hI,⟨ws,hd⟩,q⟩:=h
 have nd:=Xg.nd
 let Ek:XK:=λCv dd H'=>Cv=.ref bL/\eE P2 H H'/\cg P2 d9 d_ H'
 have Iw:∀C' dd H',Ek (.ref C') dd H'->W.subIn K (.ref C') (.ref cV)=some true:=λC' dd H' z=>by rw[z.1];exact XV.sub
 refine⟨_,(aB (aW (i:=4) nd rfl (Or.inl rfl) iM)
  (aB (VB (Ek:=Ek) (i:=5) rfl rfl (afo (VH (pv 0) CT Iv Iu (hr.mono (by omega)) nY.b (aj (pv 1) (aj (pv 2) (aj (pv 3) ao))))) rfl XV.m XV.ty XV.is XV.bx Iw nd rfl rfl (λa=>(aC (aW (i:=4) nd rfl (Or.inl rfl) (oH (bN (W_ (K:=K) rfl) (by rfl) T.fH boot_isinstance (aj (pv 5) (aj (gB (v:=.ty "ValueError") rfl XV.ve agT rfl) ao))) (oH (bN (W_ (K:=K) rfl) (by rfl) T.fH boot_isinstance (aj (pv 5) (aj (xG (v:=.ref bL) rfl XC.m rfl) ao))) (oG (Bm (bN (agS (K:=K) rfl) (by rfl) T.fH boot_isinstance (aj (pv 5) (aj (dR (aj (xG (v:=.ref t_) rfl XV.nv rfl) (aj (xG (v:=.ref uc) rfl XV.nf rfl) (aj (xG (v:=.ref ud) rfl XV.np rfl) ao)))) ao)))))))))))
  (aC (bf (pv 4))))),?_⟩
 refine⟨?_,λa C' dd H' na hE=>?_⟩
 . obtain⟨dv,hv⟩:=hI.v
   refine⟨_,rfl,v,dv,_,rfl,hv,rfl,_,rfl,_,rfl,_,rfl,v,kk,src,sn,N,cs,gs,rfl,hI,λhd'=>absurd hd (by rw[hd'];exact λz=>by cases z),λws' _ dx p H1 hk hdx hp=>⟨rfl,hk.1,hk.2⟩⟩
 . obtain⟨e,k1,k2⟩:=hE
   injection e with e
   subst e
   have s1:Same H' (upd H' a (jt a C' dd)):=Same.new na
   refine⟨_,rfl,a,C',dd,_,_,true,rfl,rfl,aD,XC.cls,XV.kv,true,rfl,cZ ?_⟩
   refine⟨_,rfl,a,C',dd,_,_,true,rfl,rfl,aD,XC.cls,XV.kc,true,rfl,cZ ?_⟩
   refine⟨_,rfl,w6,λtq gw=>⟨a,C',dd,tq,[t_,uc,ud],false,rfl,Same.new gw _ _ aD,XC.cls,aD,XV.kn,false,rfl,_,rfl,?_⟩⟩
   exact q _ (k1.trans (Kp.of (s1.trans (Same.new gw)))) ((k2.same s1).same (Same.new gw))
end
noncomputable def mF:Kd->V->Prop
 | .num,v=>∃z,v=.int z
 | .bW,v=>∃s,v=.str s
 |_,_=>False
noncomputable abbrev Dr (N:bI) (r:Int × Int × V):HO:=.dK [(Sum.inr N.x,.int r.1),(Sum.inr N.y,.int r.2.1),(Sum.inr N.z,r.2.2)]
theorem RK.same {H H':Hp}(s:Same H H'){N:bI}{pk:Addr}(h:RK H N pk):RK H' N pk:=by
 obtain⟨b,xs,h1,h2,h3⟩:=h
 exact⟨b,xs,s _ _ h1,s _ _ h2,FA.mono (Tu.of s) _ h3⟩
theorem ag1 {N:bI}(hN:N.ok){r:Int × Int × V}(hp:mF N.kp r.2.2){nm:Str}(hm:nm∈N.l):∃v,mF (kdOf N.z N.kp nm) v/\∀{H:Hp}{c:Addr},H c=some (Dr N r)->cC H c (.str nm) (some v):=by
 unfold kdOf
 rcases hN.mem.mp hm with rfl|rfl|rfl
 . exact⟨.int r.1,by rw[if_neg hN.xz];exact⟨_,rfl⟩,λh=>zR h⟩
 . exact⟨.int r.2.1,by rw[if_neg hN.yz];exact⟨_,rfl⟩,λh=>zT hN.xy h⟩
 . exact⟨r.2.2,by rw[if_pos rfl];exact hp,λh=>U5 hN.xz hN.yz h⟩
noncomputable def Xh:Sp:=λvs H Q _=>∃kv v k,vs=[kv,v,v]/\KA H kv k/\mF k v/\Q (.bl true) H
noncomputable def Xi:Sp:=λvs H Q _=>∃kk b xs c1 c2 N r,vs=[.ref kk,.ref c1,.ref c2]/\H kk=some (.tup [.str "record",.ref b])/\H b=some (.tup xs)/\FA H xs (mq (kdOf N.z N.kp) N.l)/\N.ok/\H c1=some (Dr N r)/\H c2=some (Dr N r)/\mF N.kp r.2.2/\∀H',Same H H'->Q (.bl true) H'
noncomputable def Xj:Sp:=λvs H Q _=>∃kk c1 c2 N,∃jd rE:List Addr,∃rs,vs=[.ref kk,.ref c1,.ref c2]/\RK H N kk/\N.ok/\H c1=some (.lst (jd.map V.ref))/\H c2=some (.lst (rE.map V.ref))/\cX H N.x N.y N.z jd rs/\cX H N.x N.y N.z rE rs/\(∀r∈rs,mF N.kp r.2.2)/\rs.length<=1000/\∀H',Same H H'->Q (.bl true) H'
variable {P:Program}{w:World}{K:W.Frag}{mg:Str->Option Value}{base:Heap}
theorem uf:b_ ["_law_kind_here","_law_found","_law_due_here","_law_name","_law_inner"] ["_law_kind_here","_law_found","_law_due_here"] (aM (top 41)):=cI
theorem ag2 (T:Tb mg)(fV:Dn K mg "_law_alike" ["_law_kind_here","_law_found","_law_due_here"] (top 41) nZ n6):aH P w K mg base aP (1) nZ n6 ["_law_kind_here","_law_found","_law_due_here"] (Xh):=by
 refine fV.F.ok uf (λvs H Q E h=>?_) (λcdv A outer s H vs Q E hr h=>?_)
 . obtain⟨kv,v,k,rfl,_⟩:=h
   rfl
 obtain⟨kv,v,k,rfl,hk,hp,q⟩:=h
 have nd:=uf.nd
 have hu:=eO hr
 refine⟨_,(aB (aV (aU bK (aJ bV (pv 0) ak (λ_ _=>rfl)) bJ (aQ _)) (aC (bf (oH (bN gY (by rfl) T.fH boot_isinstance (aj (pv 1) (aj (gB (v:=.ty "int") rfl T.vN boot_int rfl) ao))) (oH (Bm (bN gY (by rfl) T.fH boot_isinstance (aj (pv 1) (aj (gB (v:=.ty "bool") rfl T.yU boot_bool rfl) ao)))) (oG (qJ bK (pv 1) (pv 2) (aQ _))))))) aZ)
  (aB (aV (aU bK (aJ bV (pv 0) ak (λ_ _=>rfl)) bJ (aQ _)) (aC (bf (oH (bN gY (by rfl) T.fH boot_isinstance (aj (pv 1) (aj (gB (v:=.ty "str") rfl T.Ea boot_str rfl) ao))) (oG (qJ bK (pv 1) (pv 2) (aQ _)))))) aZ)
  (aB bZ
  (aB bZ
  (aB bZ
  (aB bZ
  (aB bZ
  (aB bZ
  (aC bZ))))))))),?_⟩
 cases k with
 |num=>
  unfold KA at hk
  obtain⟨a,rfl,ha⟩:=hk
  obtain⟨z,rfl⟩:=hp
  refine oN rfl ha rfl (by decide +kernel) ?_
  refine⟨_,rfl,_,_,_,true,rfl,.int z,rfl,true,rfl,cZ ?_⟩
  refine⟨_,rfl,_,_,_,false,rfl,.int z,rfl,false,rfl,true,rfl,cZ ?_⟩
  refine⟨_,rfl,_,rfl,rfl,?_⟩
  rw[decide_eq_true rfl]
  exact q
 |bW=>
  unfold KA at hk
  obtain⟨a,rfl,ha⟩:=hk
  obtain⟨z,rfl⟩:=hp
  refine jx rfl ha rfl (by decide +kernel) ?_
  refine oN rfl ha rfl (by decide +kernel) ?_
  refine⟨_,rfl,_,_,_,true,rfl,.str z,rfl,true,rfl,cZ ?_⟩
  refine⟨_,rfl,_,rfl,rfl,?_⟩
  rw[decide_eq_true rfl]
  exact q
 |_=>exact hp.elim
theorem ag3 (T:Tb mg)(fV:Dn K mg "_law_alike" ["_law_kind_here","_law_found","_law_due_here"] (top 41) nZ n6)(wR:aH P w K mg base aP (1) nZ n6 ["_law_kind_here","_law_found","_law_due_here"] (Xh)):aH P w K mg base aP (2) nZ n6 ["_law_kind_here","_law_found","_law_due_here"] (Xi):=by
 refine fV.F.ok uf (λvs H Q E h=>?_) (λcdv A outer s H vs Q E hr h=>?_)
 . obtain⟨kk,b,xs,c1,c2,N,r,rfl,_⟩:=h
   rfl
 obtain⟨a,b,xs,c1,c2,N,r,rfl,ha,hb,hfa,hN,hc1,hc2,hpl,fin⟩:=h
 have nd:=uf.nd
 have hu:=eO hr
 refine⟨_,(aB (aV (aU bK (aJ bV (pv 0) ak (λ_ _=>rfl)) bJ (aQ _)) (aC bZ) aZ)
  (aB (aV (aU bK (aJ bV (pv 0) ak (λ_ _=>rfl)) bJ (aQ _)) (aC bZ) aZ)
  (aB (aV (aU bK (aJ bV (pv 0) ak (λ_ _=>rfl)) bJ (aQ _)) (aB (aV (PW.pt (lG (ji (gR (bN gY (by rfl) T.fH boot_isinstance (aj (pv 1) (aj (gB (v:=.ty "dict") rfl T.sU boot_dict rfl) ao))))) (lF (aU jl (bN Qt (by rfl) T.dY PySem.boot_len (aj (pv 1) ao)) (bN gG (by rfl) T.dY PySem.boot_len (aj (aJ bV (pv 0) ak (λ_ _=>rfl)) ao)) (aQ _))))) (aC (bf iM)) aZ)
  (aB (fY PassesOwn.never rfl (uQ (aJ bV (pv 0) ak (λ_ _=>rfl))) (lK rfl (eY (cG (i:=3) nd rfl (Or.inl rfl)) (eY (cG (i:=4) nd rfl (Or.inl rfl)) lJ))) (aC (aV (PW.pt (lG (Oo (abB hu (pv 3) (pv 1)) (by with_unfolding_all rfl)) (lF (ji (gR (bF wR (hr.mono (by omega)) rfl fV.m fV.F.kp fV.b .nil bC (aj (pv 4) (aj (dD hu (pv 1) (pv 3) (λ_ _=>rfl)) (aj (dD hu (pv 2) (pv 3) (λ_ _=>rfl)) ao))))))))) (aC (bf iM)) aZ)))
  (aC (bf iM)))) aZ)
  (aB bZ
  (aB bZ
  (aB bZ
  (aB bZ
  (aB bZ
  (aC bZ))))))))),?_⟩
 refine jx rfl ha rfl (by decide +kernel) ?_
 refine jx rfl ha rfl (by decide +kernel) ?_
 refine oN rfl ha rfl (by decide +kernel) ?_
 have el:3=xs.length:=by rw[FA.len _ hfa,Gy,hN.len]
 refine⟨_,rfl,_,_,_,true,rfl,.dK hc1,rfl,true,rfl,bU ?_⟩
 refine⟨_,rfl,.inl ⟨c1,_,rfl,hc1,_,rfl,a,_,_,_,rfl,rfl,aN.of ha,rfl,b,_,rfl,.inr (aN.of hb),rfl,_,rfl,?_⟩⟩
 refine oM (show V.int (3:Nat)=V.int (xs.length:Nat) by rw[el]) ?_
 refine⟨_,rfl,a,_,_,_,rfl,rfl,aN.of ha,rfl,b,rfl,⟨_,aN.of hb⟩,xQ (xs:=xs) (λi σ H'=>H'=H/\∃x y,σ=[some (.ref a),some (.ref c1),some (.ref c2),x,y]) ⟨rfl,_,_,rfl⟩ ?_ ?_ ?_⟩
 . rintro i σ H' _ ⟨rfl,_⟩
   exact aN.of hb
 . rintro i v σ H' hv ⟨rfl,x',y',rfl⟩
   obtain⟨c,u,nm,k,rfl,hat,hc,hk⟩:=FA.get _ hfa hv
   obtain⟨hnm,rfl⟩:=zU hat
   obtain⟨v,hv,hg⟩:=ag1 hN hpl (List.mem_of_getElem? hnm)
   have g1:=hg hc1
   have g2:=hg hc2
   refine⟨c,_,rfl,aN.of hc,rfl,_,_,rfl,_,_,rfl,rfl,?_⟩
   refine⟨_,rfl,_,rfl,c1,_,rfl,g1,false,rfl,bU ?_⟩
   refine⟨_,rfl,_,rfl,_,rfl,c1,v,rfl,g1,_,rfl,_,rfl,c2,v,rfl,g2,u,v,_,rfl,hk,hv,⟨true,rfl,bU ?_⟩⟩
   exact⟨rfl,_,_,rfl⟩
 . rintro σ H' ⟨rfl,_⟩
   exact fin _ (Same.refl _)
theorem ag4 (T:Tb mg)(fV:Dn K mg "_law_alike" ["_law_kind_here","_law_found","_law_due_here"] (top 41) nZ n6)(wR:aH P w K mg base aP (2) nZ n6 ["_law_kind_here","_law_found","_law_due_here"] (Xi)):aH P w K mg base aP (3) nZ n6 ["_law_kind_here","_law_found","_law_due_here"] (Xj):=by
 refine fV.F.ok uf (λvs H Q E h=>?_) (λcdv A outer s H vs Q E hr h=>?_)
 . obtain⟨kk,c1,c2,N,jd,rE,rs,rfl,_⟩:=h
   rfl
 obtain⟨a,c1,c2,N,jd,rE,rs,rfl,tZ,hN,hc1,hc2,hr1,hr2,hp,apn,fin⟩:=h
 have nd:=uf.nd
 have hu:=eO hr
 refine⟨_,(aB (aV (aU bK (aJ bV (pv 0) ak (λ_ _=>rfl)) bJ (aQ _)) (aC bZ) aZ)
  (aB (aV (aU bK (aJ bV (pv 0) ak (λ_ _=>rfl)) bJ (aQ _)) (aC bZ) aZ)
  (aB (aV (aU bK (aJ bV (pv 0) ak (λ_ _=>rfl)) bJ (aQ _)) (aB bZ
  (aB bZ
  (aC bZ))) aZ)
  (aB (aV (aU bK (aJ bV (pv 0) ak (λ_ _=>rfl)) bJ (aQ _)) (aB (aV (PW.pt (lG (ji (gR (bN gY (by rfl) T.fH boot_isinstance (aj (pv 1) (aj (gB (v:=.ty "list") rfl T.yV boot_list rfl) ao))))) (lF (aU jl (bN Qt (by rfl) T.dY PySem.boot_len (aj (pv 1) ao)) (bN gG (by rfl) T.dY PySem.boot_len (aj (pv 2) ao)) (aQ _))))) (aC (bf iM)) aZ)
  (aC (bf (bN (Qx rfl) (by rfl) T.RZ boot_all (aj (rY (g:=(Bs K 2 (uN (dG 0) (uN (dG 1) Br)))) (tt:=lR) (te:=(BW _ _ _ (gF (xV (gF (tC (.str "record")) (gF (jF (u0 K) (fW 2) (tC (.int 3))) jG))) (gF (fW 0) (gF (fW 1) jG))))) (own:=["_law_a","_law_b"]) rfl (fZ.of (N:=["_law_kind_here","_law_found","_law_due_here","_law_name","_law_inner"]) (sc:=aM (top 41)) rfl rfl rfl (by decide +kernel)) (Q7 rfl T.R0 (aj (pv 1) (aj (pv 2) ao))) (λ_ _ _ _ _=>(lK rfl (eY (cG (i:=0) (show(["_law_a","_law_b","_law_kind_here","_law_found","_law_due_here","_law_name","_law_inner"]:List Str).Nodup by decide +kernel) rfl (Or.inl rfl) (.inr rfl)) (eY (cG (i:=1) (show(["_law_a","_law_b","_law_kind_here","_law_found","_law_due_here","_law_name","_law_inner"]:List Str).Nodup by decide +kernel) rfl (Or.inl rfl) (.inr rfl)) lJ)))) (λ_ _ _ _ _=>qR) (λ_ _ _ _ _=>(bF wR (hr.mono (by omega)) rfl fV.m fV.F.kp fV.b .nil bC (aj (dR (aj bJ (aj (aJ bV (pv 2) ak (λ_ _=>rfl)) ao))) (aj (pv 0) (aj (pv 1) ao)))))) ao))))) aZ)
  (aB bZ
  (aB bZ
  (aB bZ
  (aB bZ
  (aC bZ))))))))),?_⟩
 obtain⟨b,xs,ha,hb,hfa⟩:=tZ
 have hl1:(jd.map V.ref).length=rs.length:=by rw[iW];exact hr1.1
 have hl2:(rE.map V.ref).length=rs.length:=by rw[iW];exact hr2.1
 generalize e1:jd.map V.ref=n8 at hc1 hl1
 generalize e2:rE.map V.ref=jP at hc2 hl2
 refine jx rfl ha rfl (by decide +kernel) ?_
 refine jx rfl ha rfl (by decide +kernel) ?_
 refine jx rfl ha rfl (by decide +kernel) ?_
 refine oN rfl ha rfl (by decide +kernel) ?_
 refine⟨_,rfl,_,_,_,true,rfl,.lst hc1,rfl,true,rfl,bU ?_⟩
 refine⟨_,rfl,.inr ⟨c1,_,rfl,.inl (aq.of hc1),_,rfl,c2,_,rfl,.inl (aq.of hc2),rfl,_,rfl,oM (show V.int (n8.length:Nat)=V.int (jP.length:Nat) by rw[hl1,hl2]) ?_⟩⟩
 refine⟨_,rfl,_,rfl,c1,c2,rfl,⟨_,aq.of hc1⟩,⟨_,aq.of hc2⟩,λi m zs H'=>m=n8.length - i/\i<=n8.length/\zs=(List.replicate i true).map V.bl/\Same H H',⟨n8.length,rfl,Nat.zero_le _,rfl,Same.refl _⟩,?_⟩
 rintro i mm zs H' ⟨rfl,hile,rfl,s2⟩
 by_cases hi:i<n8.length
 . have hi2:i<jP.length:=by omega
   refine .inr ⟨⟨n8,jP,n8[i],jP[i],aq.of (s2 _ _ hc1),aq.of (s2 _ _ hc2),List.getElem?_eq_getElem hi,List.getElem?_eq_getElem hi2⟩,by rw[List.length_map,List.length_replicate];exact dX (by omega),λx' jL y'=>?_⟩
   obtain⟨p,x1,x2,hp',rfl,Ak,Al,rfl⟩:=y'
   have Ak:=Ak _ (aq.of (s2 _ _ hc1))
   have Al:=Al _ (aq.of (s2 _ _ hc2))
   rw[<-e1] at Ak
   rw[<-e2] at Al
   obtain⟨d1,hd1,rfl⟩:=tH Ak
   obtain⟨d2,hd2,rfl⟩:=tH Al
   obtain⟨r,hr,hH1⟩:=hr1.at hd1
   have hH2:=hr2.2 i d2 r hd2 hr
   have s3:Same H' (upd H' p (.tup [.ref d1,.ref d2])):=Same.new hp'
   have sa:=s2.trans s3
   refine⟨p,_,rfl,aN.of aD,rfl,_,_,rfl,_,_,rfl,rfl,rfl,yes (cZ ?_)⟩
   refine⟨_,rfl,a,_,_,_,rfl,rfl,aN.of (sa _ _ ha),rfl,gO,λt ht=>?_⟩
   have st:Same (upd H' p (.tup [.ref d1,.ref d2])) (upd (upd H' p (.tup [.ref d1,.ref d2])) t (.tup [.str "record",.ref b])):=Same.new ht
   have sb:=sa.trans st
   refine⟨_,rfl,_,rfl,t,b,xs,d1,d2,N,r,rfl,aD,sb _ _ hb,FA.mono (Tu.of sb) _ hfa,hN,sb _ _ hH1,sb _ _ hH2,hp r (List.mem_of_getElem? hr),λH3 s4=>?_⟩
   refine⟨n8.length - (i+1),by omega,rfl,hi,?_,sb.trans s4⟩
   rw[List.replicate_succ',List.map_append]
   rfl
 . refine .inl ⟨⟨n8,jP,aq.of (s2 _ _ hc1),aq.of (s2 _ _ hc2),.inl (Nat.le_of_not_lt hi)⟩,λp hp=>⟨p,List.replicate i true,rfl,aq.of aD,?_⟩⟩
   rw[U_]
   exact fin _ (s2.trans (Same.new hp))
end Pb
namespace L2
open PySem
noncomputable def ug:List V->Hp->VK->Prop:=λxs H Q=>∃a kvs,xs=[.ref a]/\H a=some (.dK kvs)/\∀l,H l=none->Q (.ref l) (upd H l (.dK kvs))
theorem Am {X:Cx}:eZ X (.type "dict") ug:=aeg
end L2
namespace Pb
open PySem L2 PyProof.Rows
theorem ag5 {k:Kd}{d:D}(h:dM (gM k) d)(hl:(flat 0 d).length<=60):d.Sm/\d.dep<=123:=by
 obtain⟨t,rs,hfl,hch⟩:=Tt h
 have h1:1<=(flat 0 d).length:=by rw[hfl,List.length_cons];omega
 obtain⟨z1,z2⟩:=HN (P:=gM k) (λt h=>h.2) hfl hch (h.all 0) hl (flat 0 d).length h1 (Nat.le_refl _)
 rw[List.take_length] at z1 z2
 have hz:1<=((flat 0 d).foldl stp []).length:=by
  rw[z2]
  obtain⟨n,hn⟩:∃n,(flat 0 d).length=n+1:=⟨(flat 0 d).length - 1,by omega⟩
  rw[hn]
  show 1<=(match(flat 0 d)[n]? with|some q=>q.1+1|none=>0)
  rw[List.getElem?_eq_getElem (by omega)]
  show 1<=_+1
  omega
 obtain⟨_,y1,y2,_⟩:=z1.fin (λt h=>h.2) hl hz
 rw[Tr h] at y1 y2
 exact⟨y1,by omega⟩
noncomputable def vD:D->V
 | .int z=>.int z
 | .str s=>.str s
 |_=>.non
noncomputable def je (qs:List (Nat × D)):List (Int × Int × V):=qs.mapIdx λi q=>((i:Int),(q.1:Int),vD q.2)
theorem IV {qs:List (Nat × D)}{i:Nat}{q:Nat × D}(h:qs[i]? =some q):(je qs)[i]? =some ((i:Int),(q.1:Int),vD q.2):=by
 unfold je
 rw[List.getElem?_mapIdx,h];rfl
theorem uh (qs:List (Nat × D)):(je qs).length=qs.length:=List.length_mapIdx
theorem ag6 {H:Hp}{k:Kd}{t:D}{u:V}{f:List Addr}(hp:fC k)(h:gM k t)(ho:Own H u t f):u=vD t/\mF k (vD t):=by
 cases k with
 |num=>
  have:=h.1
  unfold fG at this
  obtain⟨z,rfl⟩:=this
  unfold Own at ho
  exact⟨ho.1,_,rfl⟩
 |bW=>
  have:=h.1
  unfold fG at this
  obtain⟨z,rfl⟩:=this
  unfold Own at ho
  exact⟨ho.1,_,rfl⟩
 |_=>exact hp.elim
theorem Xk {k:Kd}{t:D}(hp:fC k)(h:gM k t):mF k (vD t):=by
 cases k with
 |num=>
  have:=h.1
  unfold fG at this
  obtain⟨z,rfl⟩:=this
  exact⟨_,rfl⟩
 |bW=>
  have:=h.1
  unfold fG at this
  obtain⟨z,rfl⟩:=this
  exact⟨_,rfl⟩
 |_=>exact hp.elim
theorem ag7 {ws:List V}(h:∀w∈ws,∃c,w=V.ref c):∃cs:List Addr,ws=cs.map V.ref:=by
 induction ws with
 |nil=>exact⟨[],rfl⟩
 |cons w r ih=>
  obtain⟨c,rfl⟩:=h w List.mem_cons_self
  obtain⟨cs,rfl⟩:=ih λw hw=>h w (List.mem_cons_of_mem _ hw)
  exact⟨c::cs,rfl⟩
theorem IW {S:List Addr}{x y z:Str}{H:Hp}{ws:List V}{qs:List (Nat × D)}{k:Kd}(h:fO S x y z H ws qs)(hp:fC k)(hk:∀q∈qs,gM k q.2):∃cs:List Addr,ws=cs.map V.ref/\cX H x y z cs (je qs):=by
 obtain⟨cs,rfl⟩:=ag7 (ws:=ws) λw hw=>by
  obtain⟨i,hi,e⟩:=List.getElem_of_mem hw
  obtain⟨q,_,c,_,_,e2,_⟩:=h.at (i:=i) (w:=w) (by rw[List.getElem?_eq_getElem hi,e])
  exact⟨c,e2⟩
 refine⟨cs,rfl,?_,λi c r hc hr=>?_⟩
 . have:=h.1
   rw[iW] at this
   rw[uh];exact this
 . obtain⟨q,hq,c',u,f,e,hH,ho,_⟩:=h.at (pO hc)
   cases e
   rw[IV hq] at hr
   cases hr
   rw[hH,(ag6 hp (hk q (List.mem_of_getElem? hq)) ho).1]
theorem Xl {qs:List (Nat × D)}{k:Kd}(hp:fC k)(hk:∀q∈qs,gM k q.2):∀r∈je qs,mF k r.2.2:=λr hr=>by
 obtain⟨i,hi,e⟩:=List.getElem_of_mem hr
 rw[uh] at hi
 have h1:=IV (List.getElem?_eq_getElem hi)
 have h2:(je qs)[i]? =some r:=by rw[List.getElem?_eq_getElem (by rw[uh];exact hi),e]
 rw[h1] at h2
 cases h2
 exact Xk hp (hk _ (List.getElem_mem hi))
theorem ag8 {H:Hp}{x y z:Str}{cs:List Addr}{rs rs':List (Int × Int × V)}(h:cX H x y z cs rs)(h':cX H x y z cs rs'):rs=rs':=by
 refine List.ext_getElem? λi=>?_
 cases hc:cs[i]? with
 |none=>
  have hl:=List.getElem?_eq_none_iff.mp hc
  rw[List.getElem?_eq_none (by rw[<-h.1];exact hl),List.getElem?_eq_none (by rw[<-h'.1];exact hl)]
 |some c=>
  obtain⟨r,hr,e⟩:=h.at hc
  obtain⟨r',hr',e'⟩:=h'.at hc
  rw[e] at e'
  obtain⟨a,b,v⟩:=r
  obtain⟨a',b',v'⟩:=r'
  rw[hr,hr']
  injection e' with e'
  injection e' with e'
  injection e' with e1 e2
  injection e2 with e2 e3
  injection e3 with e3 _
  injection e1 with _ e1
  injection e2 with _ e2
  injection e3 with _ e3
  injection e1 with e1
  injection e2 with e2
  have e1:a=a':=e1
  have e2:b=b':=e2
  have e3:v=v':=e3
  rw[e1,e2,e3]
theorem Xm {k:Kd}{v:V}(h:mF k v):(∃w,v=.int w)\/∃w,v=.str w:=by
 cases k with
 |num=>exact .inl h
 |bW=>exact .inr h
 |_=>exact h.elim
theorem ag9 {k:Kd}{v:V}(h:mF k v):d8 k (pJ v)=true:=by
 cases k with
 |num=>obtain⟨z,rfl⟩:=h;rfl
 |bW=>obtain⟨z,rfl⟩:=h;rfl
 |_=>exact h.elim
noncomputable def lC (qs:List (Nat × D)):List GR:=(je qs).map λr=>some (.int r.1,.int r.2.1,pJ r.2.2)
theorem I_ {qs:List (Nat × D)}{i:Nat}{q:Nat × D}(h:qs[i]? =some q):(lC qs)[i]? =some (some (.int (i:Int),.int (q.1:Int),pJ (vD q.2))):=by
 unfold lC
 rw[List.getElem?_map,IV h];rfl
theorem Xn (qs:List (Nat × D)):(lC qs).length=qs.length:=by unfold lC;rw[List.length_map,uh]
theorem aha {N:bI}(hN:N.ok){a b:Int}{ce:Ce}(h:d8 N.kp ce=true):gq N (some (.int a,.int b,ce))=none:=by
 refine nH λj hj=>?_
 unfold iu
 have hg:N.l[j]? =some (N.l[j]'hj):=List.getElem?_eq_getElem hj
 rw[hg]
 refine if_pos ?_
 have:=hN.mem.mp (List.getElem_mem hj)
 unfold kdOf kE
 rcases this with e|e|e <;> rw[e]
 . rw[if_neg hN.xz,if_pos rfl];rfl
 . rw[if_neg hN.yz,if_neg (Ne.symm hN.xy),if_pos rfl];rfl
 . rw[if_pos rfl,if_neg (Ne.symm hN.xz),if_neg (Ne.symm hN.yz)];exact h
theorem ahb {N:bI}(hN:N.ok){qs r:List (Nat × D)}{t:D}(hq:qs=(0,t)::r)(hc:fM 1 r)(hk:∀q∈qs,gM N.kp q.2):dW N (lC qs)=none:=by
 have ga:∀{i:Nat} {q:Nat × D},qs[i]? =some q->aY (lC qs) i=(i:Int)/\bA (lC qs) i=(q.1:Int):=λh=>⟨Gj (I_ h),Uz (I_ h)⟩
 have hl:=Xn qs
 have get:∀i,i<qs.length->∃q,qs[i]? =some q:=λi hi=>⟨qs[i],List.getElem?_eq_getElem hi⟩
 have hm:iw N (lC qs)=none:=nH λi hi=>by
  obtain⟨q,hq'⟩:=get i (by omega)
  have hr:=aha hN (a:=(i:Int)) (b:=(q.1:Int)) (ag9 (Xk hN.p (hk q (List.mem_of_getElem? hq'))))
  rw[zQ (I_ hq') hr]
  refine if_neg λz=>?_
  obtain⟨q2,hq2⟩:=get (i - 1) (by omega)
  have h1:=(ga hq').1
  have h2:=(ga hq2).1
  omega
 unfold dW
 rw[hm]
 show iJ N (lC qs)=none
 have h1:1<=qs.length:=by rw[hq,List.length_cons];omega
 unfold iJ
 rw[if_neg (by omega)]
 refine nH λi hi=>?_
 obtain⟨q,hq'⟩:=get i (by omega)
 obtain⟨o1,o2,o3⟩:=Hz hq hc hq'
 obtain⟨e1,e2⟩:=ga hq'
 unfold iY
 rw[if_neg (by rw[e1];simp)]
 refine if_neg λz=>?_
 rcases z with⟨z1,z2⟩|⟨z1,z2⟩
 . have:=o1 z1;omega
 . have:=o2 (by omega)
   obtain⟨j,rfl⟩:∃j,i=j+1:=⟨i - 1,by omega⟩
   obtain⟨q2,hq2⟩:=get j (by omega)
   have e3:=(ga hq2).2
   rw[Nat.add_sub_cancel] at z2
   have o3:q.1<=(match qs[j]? with|some q=>q.1+1|none=>0):=o3
   rw[hq2] at o3
   have o3:q.1<=q2.1+1:=o3
   omega
noncomputable def rF (H H':Hp) (cs cs':List Addr):Prop:=cs.length=cs'.length/\∀(i:Nat) c c' kvs,cs[i]? =some c->cs'[i]? =some c'->H c=some (.dK kvs)->H' c'=some (.dK kvs)
theorem rF.at {H H':Hp}{cs cs':List Addr}(h:rF H H' cs cs'){i:Nat}{c':Addr}(e:cs'[i]? =some c'):∃c,cs[i]? =some c/\∀kvs,H c=some (.dK kvs)->H' c'=some (.dK kvs):=by
 obtain⟨hi,_⟩:=List.getElem?_eq_some_iff.mp e
 have hr:cs[i]? =some (cs[i]'(by rw[h.1];exact hi)):=List.getElem?_eq_getElem _
 exact⟨_,hr,λkvs hk=>h.2 i _ c' kvs hr e hk⟩
theorem rF.cp {H H':Hp}{cs cs':List Addr}(h:rF H H' cs cs'){x y z:Str}{rs:List (Int × Int × V)}(hc:cX H x y z cs rs):cX H' x y z cs' rs:=⟨by rw[<-h.1];exact hc.1,λi c' r hc' hr=>by
 obtain⟨c,e,k⟩:=h.at hc'
 exact k _ (hc.2 i c r e hr)⟩
theorem rF.gl {H H':Hp}{cs cs':List Addr}(h:rF H H' cs cs')(s:Same H H'){x y z:Str}{gs:List GR}(hc:GL H x y z cs gs):GL H' x y z cs' gs:=⟨by rw[<-h.1];exact hc.1,λi c' g hc' hg=>by
 obtain⟨c,e,k⟩:=h.at hc'
 have:=hc.2 i c g e hg
 match g,this with
 |none,⟨kvs,h1,h2⟩=>exact⟨kvs,k _ h1,h2⟩
 |some (c0,c1,c2),⟨v0,v1,v2,h1,a0,a1,a2⟩=>exact⟨v0,v1,v2,k _ h1,a0.same s,a1.same s,a2.same s⟩⟩
theorem Ja (x y:Str):sle x y\/sle y x:=by
 cases e:cJ (dg y) (dg x) with
 |false=>exact .inl e
 |true=>exact .inr (RP e)
theorem ahc (x y z:Str):∃l:List Str,l.Perm [x,y,z]/\l.Pairwise sle:=by
 rcases Ja x y with a|a <;> rcases Ja y z with b|b <;> rcases Ja x z with c|c
 . exact⟨[x,y,z],.refl _,by simp[a,b,c]⟩
 . exact⟨[x,y,z],.refl _,by simp[a,b,DW a b]⟩
 . exact⟨[x,z,y],.cons _ (.swap _ _ _),by simp[a,b,c]⟩
 . exact⟨[z,x,y],((List.Perm.swap x z [y]).trans (.cons _ (.swap _ _ _))),by simp[a,b,c]⟩
 . exact⟨[y,x,z],.swap _ _ _,by simp[a,b,c]⟩
 . exact⟨[y,z,x],(List.Perm.cons y (.swap x z [])).trans (.swap _ _ _),by simp[a,b,c]⟩
 . exact⟨[z,y,x],by
    refine(List.Perm.swap y z [x]).trans ((List.Perm.cons y (.swap x z [])).trans (.swap _ _ _)),by simp[a,b,DW b a]⟩
 . exact⟨[z,y,x],by
    refine(List.Perm.swap y z [x]).trans ((List.Perm.cons y (.swap x z [])).trans (.swap _ _ _)),by simp[a,b,c]⟩
theorem Ao {K:W.Frag}{i:Nat}{a:Addr}{cs:List Addr}{σ:L2.St}{H:Hp}{Q:VK}(hi:σ[i]? =some (some (.ref a)))(ha:H a=some (.lst (cs.map V.ref)))(hl:cs.length<=100)(hd:∀c∈cs,∃kvs,H c=some (.dK kvs))
 (q:∀p cs' H',Same H H'->H p=none->H' p=some (.lst (cs'.map V.ref))->rF H H' cs cs'->cs'.Nodup->(∀c∈cs',H c=none)->p ∉ cs'->Q (.ref p) H'):
 Cw 1 (Ow K (fW i)) (dG 0) lR (qN ug (gF (fW 0) jG)) σ H Q:=by
 refine⟨_,hi,a,rfl,⟨_,aq.of ha⟩,λj m ys H'=>m=cs.length - j/\j<=cs.length/\∃cs':List Addr,ys=cs'.map V.ref/\cs'.length=j/\Same H H'/\(∀(k:Nat) c c' kvs,cs[k]? =some c->cs'[k]? =some c'->H c=some (.dK kvs)->H' c'=some (.dK kvs))/\cs'.Nodup/\∀c∈cs',H c=none/\∃o,H' c=some o,⟨cs.length,by simp,Nat.zero_le _,[],rfl,rfl,Same.refl _,λk c c' kvs _ h=>by simp at h,List.nodup_nil,λc h=>absurd h (by simp)⟩,?_⟩
 rintro j m ys H' ⟨rfl,hj,cs',rfl,hl',s1,hcp,hnd,hfr⟩
 by_cases hlt:j<cs.length
 . have hcj:cs[j]? =some cs[j]:=List.getElem?_eq_getElem hlt
   refine .inr ⟨⟨cs.map V.ref,.ref cs[j],aq.of (s1 _ _ ha),pO hcj⟩,by rw[List.length_map];exact dX (by omega),λx jL y=>?_⟩
   obtain⟨rfl,y⟩:=y
   have hx:=y _ (aq.of (s1 _ _ ha))
   rw[pO hcj] at hx
   cases hx
   obtain⟨kvs,hk⟩:=hd _ (List.getElem_mem hlt)
   refine⟨rfl,yes (cZ ?_)⟩
   refine⟨_,rfl,_,kvs,rfl,s1 _ _ hk,λl hl2=>?_⟩
   have sl:Same jL (upd jL l (.dK kvs)):=Same.new hl2
   refine⟨cs.length - (j+1),by omega,rfl,hlt,cs'++[l],by rw[List.map_append];rfl,by rw[List.length_append,hl'];rfl,s1.trans sl,λk c c' kv hc hc' h=>?_,?_,λc hc=>?_⟩
   . by_cases hk':k<cs'.length
     . rw[List.getElem?_append_left hk'] at hc'
       exact sl _ _ (hcp k c c' kv hc hc' h)
     . rw[List.getElem?_append_right (by omega)] at hc'
       have e:k - cs'.length=0:=by
        have:=(List.getElem?_eq_some_iff.mp hc').1
        simp at this
        omega
       rw[e] at hc'
       have hc':some l=some c':=hc'
       cases hc'
       have ek:k=j:=by omega
       subst ek
       rw[hcj] at hc
       cases hc
       rw[hk] at h
       cases h
       exact aD
   . rw[List.nodup_append]
     refine⟨hnd,by simp,λx hx y hy=>?_⟩
     rw[List.mem_singleton] at hy
     subst hy
     intro e
     subst e
     obtain⟨_,o,ho⟩:=hfr x hx
     rw[ho] at hl2;cases hl2
   . rcases List.mem_append.mp hc with h|h
     . obtain⟨h1,o,ho⟩:=hfr c h
       exact⟨h1,o,sl _ _ ho⟩
     . rw[List.mem_singleton.mp h]
       refine⟨?_,_,aD⟩
       cases e:H l with
       |none=>rfl
       |some o=>rw[s1 _ _ e] at hl2;cases hl2
 . have ej:j=cs.length:=by omega
   refine .inl ⟨⟨_,aq.of (s1 _ _ ha),by rw[iW];omega⟩,λp hp=>?_⟩
   have sp:Same H' (upd H' p (.lst (cs'.map V.ref))):=Same.new hp
   refine q p cs' _ (s1.trans sp) ?_ aD ⟨by omega,λk c c' kvs hc hc' h=>sp _ _ (hcp k c c' kvs hc hc' h)⟩ hnd (λc hc=>(hfr c hc).1) (λz=>?_)
   . cases e:H p with
     |none=>rfl
     |some o=>rw[s1 _ _ e] at hp;cases hp
   . obtain⟨_,o,ho⟩:=hfr p z
     rw[ho] at hp;cases hp
theorem Xo:∀{a b:List Addr},a.map V.ref=b.map V.ref->a=b
 |[],[],_=>rfl
 |[],_::_,h=>by cases h
 |_::_,[],h=>by cases h
 |x::a,y::b,h=>by
  injection h with h1 h2
  injection h1 with h1
  rw[h1,Xo h2]
noncomputable def Jb (K:W.Frag) (P2:Addr):Sp:=λvs H Q _=>∃(a:Addr) (ns:List Int),vs=[.ref a]/\j6 K H a ns/\ns.length<=63/\cg P2 d9 d_ H/\∀H',Q (.bl true) H'
theorem G0.one {K:W.Frag}{H:Hp}{a b:Addr}{ns:List Int}{n:Int}(h:j6 K H a ns)(hl:ns.length<=63)(hb:H b=none)(hn:0<=n):G0 K (upd H b (.lst [.int n])) a b ns n:=by
 refine⟨?_,hl,aD,hn⟩
 rcases h with⟨o,h⟩|h
 . exact .inl ⟨o,Same.new hb a _ h⟩
 . exact .inr h
structure Lw (P2 ro kk rh:Addr) (kv:V) (N:bI) (ch:List Addr) (qs:List (Nat × D)) (H:Hp):Prop where
 ro:H ro=some (.lst [.str N.x,.str N.y,.str N.z])
 kk:H kk=some (.tup [.str "tree",kv])
 ka:KA H kv N.kp
 rh:H rh=some (.lst (ch.map V.ref))
 cp:cX H N.x N.y N.z ch (je qs)
 lam:cg P2 d9 d_ H
theorem Lw.keep {P2 ro kk rh:Addr}{kv:V}{N:bI}{ch:List Addr}{qs:List (Nat × D)}{H H':Hp}(h:Lw P2 ro kk rh kv N ch qs H)(k:∀c o,(∀ps,o≠ .dI ps)->c≠kk->(∀xs,o=.lst xs->c=ro\/c=rh)->H c=some o->H' c=some o)(t:Tu H H')(hT:cg P2 d9 d_ H'):Lw P2 ro kk rh kv N ch qs H':=
 ⟨k _ _ (by intro ps z;cases z) (λz=>by have:=h.kk;rw[<-z,h.ro] at this;cases this) (λ_ _=>.inl rfl) h.ro,t _ _ h.kk,KA.mono t _ h.ka,k _ _ (by intro ps z;cases z) (λz=>by have:=h.kk;rw[<-z,h.rh] at this;cases this) (λ_ _=>.inr rfl) h.rh,
   ⟨h.cp.1,λi c r hc hr=>k _ _ (by intro ps z;cases z) (λz=>by have:=h.kk;rw[<-z,h.cp.2 i c r hc hr] at this;cases this) (λ_ z=>by cases z) (h.cp.2 i c r hc hr)⟩,hT⟩
theorem Lw.dw {P2 ro kk rh:Addr}{kv:V}{N:bI}{ch:List Addr}{qs:List (Nat × D)}{H H':Hp}(h:Lw P2 ro kk rh kv N ch qs H)(x:eE P2 H H')(hT:cg P2 d9 d_ H'):Lw P2 ro kk rh kv N ch qs H':=
 h.keep (λc o ho _ _ e=>x.ls h.lam ho e) (x.tu h.lam) hT
theorem Lw.same {P2 ro kk rh:Addr}{kv:V}{N:bI}{ch:List Addr}{qs:List (Nat × D)}{H H':Hp}(h:Lw P2 ro kk rh kv N ch qs H)(s:Same H H'):Lw P2 ro kk rh kv N ch qs H':=h.dw (Kp.of s) (h.lam.same s)
structure Lv (P2 C vw sp:Addr) (dv:V) (N:bI) (cs:List Addr) (gs:List GR) (H:Hp):Prop where
 rin:iV H N sp cs gs
 vw:∃dx,H vw=some (rB C dx N.x N.y N.z)
 du:pN H dv (dW N gs)
theorem Lv.dw {P2 C vw sp:Addr}{dv:V}{N:bI}{cs:List Addr}{gs:List GR}{H H':Hp}(h:Lv P2 C vw sp dv N cs gs H)(x:eE P2 H H')(hT:cg P2 d9 d_ H):Lv P2 C vw sp dv N cs gs H':=by
 obtain⟨dx,hv⟩:=h.vw
 refine⟨h.rin.dw x hT,⟨dx,x.ls hT (by intro ps z;cases z) hv⟩,?_⟩
 have:=h.du
 cases hd:dW N gs with
 |none=>rw[hd] at this;exact this
 |some ws=>
  rw[hd] at this
  obtain⟨p,e,hp⟩:=this
  exact⟨p,e,x.ls hT (by intro ps z;cases z) hp⟩
theorem Xp {H:Hp}{x y z:Str}{cs:List Addr}{gs:List GR}(h:GL H x y z cs gs):∀c∈cs,∃kvs,H c=some (.dK kvs):=λc hc=>by
 obtain⟨i,hi,e⟩:=List.getElem_of_mem hc
 obtain⟨g,_,hg⟩:=h.at (i:=i) (c:=c) (by rw[List.getElem?_eq_getElem hi,e])
 exact aeV hg
theorem Xq {H:Hp}{x y z:Str}{cs:List Addr}{rs:List (Int × Int × V)}(h:cX H x y z cs rs):∀c∈cs,∃kvs,H c=some (.dK kvs):=λc hc=>by
 obtain⟨i,hi,e⟩:=List.getElem_of_mem hc
 obtain⟨r,_,hg⟩:=h.at (i:=i) (c:=c) (by rw[List.getElem?_eq_getElem hi,e])
 exact⟨_,hg⟩
theorem Lw.pt {P2 C ro kk rh vw p:Addr}{kv:V}{N:bI}{ch cs':List Addr}{qs:List (Nat × D)}{gs:List GR}{H:Hp}(h:Lw P2 ro kk rh kv N ch qs H)(hv:∃dx,H vw=some (rB C dx N.x N.y N.z))(hx0:N.x≠("":Str))(hN:N.ok)(hp:H p=some (.lst (cs'.map V.ref)))(hg:GL H N.x N.y N.z cs' gs)(hl:cs'.length<=41):Ac P2 C vw kk p N cs' gs H:=
 ⟨hv,⟨kv,h.kk,h.ka⟩,hx0,h.lam,hN,hp,hg,hl⟩
theorem ahd {k:Kd}(h:fC k):vP k:=by
 cases k with
 |num=>trivial
 |bW=>trivial
 |_=>exact h.elim
section
variable {P:Program}{w:World}{K:W.Frag}{mg:Str->Option Value}{base:Heap}
variable {C P2 bL:Addr}
theorem Xr:b_ ["_law_script","_law_at","_law_row_of","_law_part","_law_kind_here","_law_source","_law_rows_here","_law_spoilt","_law_m","_law_due_here","_law_view","_law_turn","_law_told"] ["_law_script"] (aM (top 52)):=cI
theorem ahe (T:Tb mg)(UF:nR K mg C kY jC kZ jD k_)(Aq:Dn K mg "law" ["_law_script"] (top 52) ahf ahg)(pA:Dn K mg "_law_turned_names" ["_law_script","_law_at"] (top 43) Fb Fd)(ahh:aH P w K mg base aP (3) Fb Fd ["_law_script","_law_at"] (T3 K))(oW:Dn K mg "_law_plain" ["_law_script","_law_at"] (top 34) Eb Ec)(ahi:aH P w K mg base aP (2) Eb Ec ["_law_script","_law_at"] (R3 K))(cR:Dn K mg "_law_value" ["_law_script","_law_at","_law_kind_here","_law_room"] (top 40) lW lX)(o7:aH P w K mg base aP (125) lW lX ["_law_script","_law_at","_law_kind_here","_law_room"] (sW K 60))(pB:Dn K mg "_law_tree_rows" ["_law_script","_law_at","_law_row_of","_law_part"] (top 46) Fi Fj)(ahj:aH P w K mg base aP (126) Fi Fj ["_law_script","_law_at","_law_row_of","_law_part"] (T7 K))(bB:Dn K mg "_law_next" ["_law_script","_law_at"] (top 30) fJ fL)(gh:aH P w K mg base aP (1) fJ fL ["_law_script","_law_at"] (q9 K))(kh:Dn K mg "_law_numbers_off" ["_law_script","_law_at","_law_row_of","_law_rows_here","_law_sort"] (top 47) Ft Fv)(Xu:aH P w K mg base aP (2) Ft Fv ["_law_script","_law_at","_law_row_of","_law_rows_here","_law_sort"] (Ug K))(pK:Dn K mg "_law_rows_off" ["_law_script","_law_at","_law_row_of","_law_part","_law_rows_here"] (top 48) FN FP)(ahk:aH P w K mg base aP (2) FN FP ["_law_script","_law_at","_law_row_of","_law_part","_law_rows_here"] (Uo K))(pR:Dn K mg "_law_due" ["_law_row_of","_law_part","_law_rows_here"] (top 51) Gu Gv)(ahl:aH P w K mg base aP (3) Gu Gv ["_law_row_of","_law_part","_law_rows_here"] (U6))(lB:Dn K mg "_law_put" ["_law_view","_law_kind_here","_law_source","_law_seen"] (top 44) Ip Ir)(Xv:aH P w K mg base aP (12) Ip Ir ["_law_view","_law_kind_here","_law_source","_law_seen"] (Xc bL P2 C))(qp:Dn K mg "_law_class" ["_law_view","_law_kind_here","_law_source","_law_seen"] (top 45) Iz IK)(ahm:aH P w K mg base aP (12) Iz IK ["_law_view","_law_kind_here","_law_source","_law_seen"] (Xd bL P2 C))(qm:Dn K mg "_law_way" ["_law_found","_law_due_here"] (top 42) Im Io)(ahn:aH P w K mg base aP (1) Im Io ["_law_found","_law_due_here"] (Xb))(fV:Dn K mg "_law_alike" ["_law_kind_here","_law_found","_law_due_here"] (top 41) nZ n6)(wR:aH P w K mg base aP (3) nZ n6 ["_law_kind_here","_law_found","_law_due_here"] (Xj))(tR:Dm K "__init__" "Unroll.__init__" ["self","at","deep","knot"] (bw 28 0) kY Hw)(aho:aH P w K mg base aP (1) kY Hw ["self","at","deep","knot"] (Wg C))(nU:Dm K "behind" "Unroll.behind" ["self","kind"] (bw 28 1) jC wC)(HX:aH P w K mg base aP (10) jC wC ["self","kind"] (Hs P2 C))(tW:Dm K "see" "Unroll.see" ["self","kind","source"] (bw 28 2) kZ HD)(ahp:aH P w K mg base aP (126) kZ HD ["self","kind","source"] (Ws C 124)):aH P w K mg base aP (127) ahf ahg ["_law_script"] (Jb K P2):=by
 have CT:=UF.ct
 have ahq:=UF.mkk
 have ahr:=UF.m
 have HY:=UF.b
 have ahs:=UF.s
 refine Aq.F.ok Xr (λvs H Q E h=>?_) (λcdv A outer s H vs Q E hr h=>?_)
 . obtain⟨a,ns,rfl,_⟩:=h
   rfl
 obtain⟨a,ns,rfl,hS,h63,hT,done⟩:=h
 have nd:=Xr.nd
 have hu:=eO hr
 refine⟨_,(aB (aW (i:=1) nd rfl (Or.inl rfl) (cL (aj ak ao)))
  (aB (aW (i:=2) nd rfl (Or.inl rfl) (bF ahh (hr.mono (by omega)) rfl pA.m pA.F.kp pA.b .nil bC (aj (pv 0) (aj (pv 1) ao))))
  (aB (aW (i:=3) nd rfl (Or.inl rfl) (bF ahi (hr.mono (by omega)) rfl oW.m oW.F.kp oW.b .nil bC (aj (pv 0) (aj (pv 1) ao))))
  (aB (aW (i:=4) nd rfl (Or.inl rfl) (dR (aj bJ (aj (pv 3) ao))))
  (aB (aW (i:=5) nd rfl (Or.inl rfl) (bF o7 (hr.mono (by omega)) rfl cR.m cR.F.kp cR.b .nil bC (aj (pv 0) (aj (pv 1) (aj (pv 4) (aj ak ao))))))
  (aB (aW (i:=6) nd rfl (Or.inl rfl) (bF ahj (hr.mono (by omega)) rfl pB.m pB.F.kp pB.b .nil bC (aj (pv 0) (aj (pv 1) (aj (pv 2) (aj (pv 3) ao))))))
  (aB (abX (i:=7) nd rfl (Or.inl rfl) (g:=(dG 0)) (tt:=lR) (te:=(qN ug (gF (fW 0) jG))) (own:=["_law_row"]) rfl (fZ.of (N:=["_law_script","_law_at","_law_row_of","_law_part","_law_kind_here","_law_source","_law_rows_here","_law_spoilt","_law_m","_law_due_here","_law_view","_law_turn","_law_told"]) (sc:=aM (top 52)) rfl rfl rfl (by decide +kernel)) (jY (pv 6)) (λ_ _ _ _ _=>(cG (i:=0) (show(["_law_row","_law_script","_law_at","_law_row_of","_law_part","_law_kind_here","_law_source","_law_rows_here","_law_spoilt","_law_m","_law_due_here","_law_view","_law_turn","_law_told"]:List Str).Nodup by decide +kernel) rfl (Or.inl rfl) (.inr rfl))) (λ_ _ _ _ _=>qR) (λ_ _ _ _ _=>(qO Am (by rfl) T.sU boot_dict (aj (pv 0) ao))))
  (aB (aW (i:=8) nd rfl (Or.inl rfl) (bF gh (hr.mono (by omega)) rfl bB.m bB.F.kp bB.b .nil bC (aj (pv 0) (aj (pv 1) ao))))
  (aB (jj (bF Xu (hr.mono (by omega)) rfl kh.m kh.F.kp kh.b .nil bC (aj (pv 0) (aj (pv 1) (aj (pv 2) (aj (pv 7) (aj (aL cH (pv 8) ak) ao)))))))
  (aB (aV (aU bK (aL cH (aL gU (pv 8) ak) ak) ak (aQ _)) (aC (jj (bF Xu (hr.mono (by omega)) rfl kh.m kh.F.kp kh.b .nil bC (aj (pv 0) (aj (pv 1) (aj (pv 2) (aj (pv 7) (aj (aL cH (aL gU (pv 8) ak) ak) ao)))))))) aZ)
  (aB (jj (bF ahk (hr.mono (by omega)) rfl pK.m pK.F.kp pK.b .nil bC (aj (pv 0) (aj (pv 1) (aj (pv 2) (aj (pv 3) (aj (pv 7) ao)))))))
  (aB (aW (i:=9) nd rfl (Or.inl rfl) (bF ahl (hr.mono (by omega)) rfl pR.m pR.F.kp pR.b .nil bC (aj (pv 2) (aj (pv 3) (aj (pv 7) ao)))))
  (aB (aW (i:=10) nd rfl (Or.inl rfl) (aaO ahq aho (hr.mono (by omega)) rfl ahr tR.b .nil bC (aj (aJ bh (pv 2) ak (λ_ _=>rfl)) (aj (aJ bh (pv 2) ak (λ_ _=>rfl)) (aj (aJ bh (pv 2) ak (λ_ _=>rfl)) ao)))))
  (aB (fY PassesOwn.never rfl (jY (cL (aj ak (aj ak ao)))) (cG (i:=11) nd rfl (Or.inl rfl)) (aB (aW (i:=12) nd rfl (Or.inl rfl) (bF Xv (hr.mono (by omega)) rfl lB.m lB.F.kp lB.b .nil bC (aj (pv 10) (aj (pv 4) (aj (pv 5) (aj (rY (g:=(dG 0)) (tt:=lR) (te:=(qN ug (gF (fW 0) jG))) (own:=["_law_row"]) rfl (fZ.of (N:=["_law_script","_law_at","_law_row_of","_law_part","_law_kind_here","_law_source","_law_rows_here","_law_spoilt","_law_m","_law_due_here","_law_view","_law_turn","_law_told"]) (sc:=aM (top 52)) rfl rfl rfl (by decide +kernel)) (jY (pv 7)) (λ_ _ _ _ _=>(cG (i:=0) (show(["_law_row","_law_script","_law_at","_law_row_of","_law_part","_law_kind_here","_law_source","_law_rows_here","_law_spoilt","_law_m","_law_due_here","_law_view","_law_turn","_law_told"]:List Str).Nodup by decide +kernel) rfl (Or.inl rfl) (.inr rfl))) (λ_ _ _ _ _=>qR) (λ_ _ _ _ _=>(qO Am (by rfl) T.sU boot_dict (aj (pv 0) ao)))) ao))))))
  (aB (aV (PW.pt (oF (aU aax (pv 9) iQ (aQ _)) (oE (aU jl (aJ bV (pv 12) ak (λ_ _=>rfl)) bJ (aQ _))))) (aC (bf iM)) aZ)
  (aC (aV (PW.pt (oF (aU rT (pv 9) iQ (aQ _)) (oE (PW.pt (lG (aU jl (aJ bV (pv 12) ak (λ_ _=>rfl)) bJ (aQ _)) (lF (ji (gR (bF ahn (hr.mono (by omega)) rfl qm.m qm.F.kp qm.b .nil bC (aj (aJ bV (pv 12) ak (λ_ _=>rfl)) (aj (pv 9) ao))))))))))) (aC (bf iM)) aZ)))))
  (aB (aV (PW.pt (oF (aU rT (pv 9) iQ (aQ _)) (oE (ji (gR (bF ahm (hr.mono (by omega)) rfl qp.m qp.F.kp qp.b .nil bC (aj (pv 10) (aj (pv 4) (aj (pv 5) (aj (rY (g:=(dG 0)) (tt:=lR) (te:=(qN ug (gF (fW 0) jG))) (own:=["_law_row"]) rfl (fZ.of (N:=["_law_script","_law_at","_law_row_of","_law_part","_law_kind_here","_law_source","_law_rows_here","_law_spoilt","_law_m","_law_due_here","_law_view","_law_turn","_law_told"]) (sc:=aM (top 52)) rfl rfl rfl (by decide +kernel)) (jY (pv 7)) (λ_ _ _ _ _=>(cG (i:=0) (show(["_law_row","_law_script","_law_at","_law_row_of","_law_part","_law_kind_here","_law_source","_law_rows_here","_law_spoilt","_law_m","_law_due_here","_law_view","_law_turn","_law_told"]:List Str).Nodup by decide +kernel) rfl (Or.inl rfl) (.inr rfl))) (λ_ _ _ _ _=>qR) (λ_ _ _ _ _=>(qO Am (by rfl) T.sU boot_dict (aj (pv 0) ao)))) ao)))))))))) (aC (bf iM)) aZ)
  (aB (aW (i:=12) nd rfl (Or.inl rfl) (bF Xv (hr.mono (by omega)) rfl lB.m lB.F.kp lB.b .nil bC (aj (pv 10) (aj (pv 4) (aj (pv 5) (aj (rY (g:=(dG 0)) (tt:=lR) (te:=(qN ug (gF (fW 0) jG))) (own:=["_law_row"]) rfl (fZ.of (N:=["_law_script","_law_at","_law_row_of","_law_part","_law_kind_here","_law_source","_law_rows_here","_law_spoilt","_law_m","_law_due_here","_law_view","_law_turn","_law_told"]) (sc:=aM (top 52)) rfl rfl rfl (by decide +kernel)) (jY (pv 6)) (λ_ _ _ _ _=>(cG (i:=0) (show(["_law_row","_law_script","_law_at","_law_row_of","_law_part","_law_kind_here","_law_source","_law_rows_here","_law_spoilt","_law_m","_law_due_here","_law_view","_law_turn","_law_told"]:List Str).Nodup by decide +kernel) rfl (Or.inl rfl) (.inr rfl))) (λ_ _ _ _ _=>qR) (λ_ _ _ _ _=>(qO Am (by rfl) T.sU boot_dict (aj (pv 0) ao)))) ao))))))
  (aB (aV (aU jl (aJ bV (pv 12) ak (λ_ _=>rfl)) bJ (aQ _)) (aC (bf iM)) aZ)
  (aC (bf (bF wR (hr.mono (by omega)) rfl fV.m fV.F.kp fV.b .nil bC (aj (xW (pv 10) CT HY HX (hr.mono (by omega)) nU.b .nil bC (aj (pv 4) ao)) (aj (xW (pv 10) CT ahs ahp (hr.mono (by omega)) tW.b .nil bC (aj (pv 4) (aj (aJ bV (pv 12) ak (λ_ _=>rfl)) ao))) (aj (pv 6) ao))))))))))))))))))))))),?_⟩
 refine⟨dF,λb hb=>?_⟩
 have s0:Same H (upd H b (.lst [.int 0])):=Same.new hb
 have g0:G0 K (upd H b (.lst [.int 0])) a b ns 0:=G0.one hS h63 hb (by decide)
 have hT0:=hT.same s0
 generalize upd H b (.lst [.int 0])=H0 at s0 g0 hT0
 refine⟨_,rfl,_,rfl,a,b,ns,0,rfl,g0,by decide,λro x y z H1 s1 h1 dz hxy hxz hyz hx0=>?_⟩
 refine⟨_,rfl,_,rfl,a,b,ns,_,rfl,g0.go s1 h1 (by decide),by decide,λkv kp H2 s2 h2 hk hdp hpl hW=>?_⟩
 have g2:G0 K H2 a b ns 3:=(g0.go s1 h1 (by decide)).go s2 h2 (by decide)
 have n_:ro≠b:=λz=>by rw[z,h1] at dz;cases dz
 have jQ:=s2 _ _ n_ dz
 have hT2:cg P2 d9 d_ H2:=(hT0.sb g0.at_ s1).sb h1 s2
 refine⟨_,rfl,gO,λkk hkk=>?_⟩
 have s3:Same H2 (upd H2 kk (.tup [.str "tree",kv])):=Same.new hkk
 have um:upd H2 kk (.tup [.str "tree",kv]) kk=some (.tup [.str "tree",kv]):=aD
 generalize upd H2 kk (.tup [.str "tree",kv])=H3 at s3 um
 have g3:G0 K H3 a b ns 3:=g2.go (SB.of s3) (s3 _ _ g2.at_) (Int.le_refl _)
 have hkt:KA H3 (.ref kk) (.tree kp):=by unfold KA;exact⟨kk,kv,rfl,um,KA.mono (Tu.of s3) _ hk⟩
 have hcB:kp.cB=1/\kp.dep=1:=by
  cases kp with
  |num=>exact⟨rfl,rfl⟩
  |bW=>exact⟨rfl,rfl⟩
  |_=>exact hpl.elim
 have hcT:(Kd.tree kp).cB=1170:=by show(kp.cB+1) * 585=1170;rw[hcB.1]
 have hkc:=zj (.tree kp) 2
 refine⟨_,rfl,_,rfl,_,rfl,a,b,ns,_,.ref kk,.tree kp,2,rfl,g3,ahd hpl,hkt,(by unfold Kd.W;exact hW),by decide,by simp only[mu,Kd.dep];omega,by omega,λsrc H4 fps s4 h4 _ _ _=>?_⟩
 have ct:=oU ns (.tree kp) 2 3 (by decide)
 rw[hcT] at ct
 generalize (val ns (.tree kp) 2 3).2=n4 at ct h4
 have g4:G0 K H4 a b ns n4:=g3.go s4 h4 ct.1
 have Xw:kk≠b:=λz=>by rw[z,g3.at_] at um;cases um
 have v8:=s4 _ _ n_ (s3 _ _ jQ)
 have Xx:=s4 _ _ Xw um
 have Jc:KA H4 kv kp:=(KA.mono (Tu.of s3) _ hk).mono (s4.tu g3.at_) _
 have Xy:cg P2 d9 d_ H4:=(hT2.same s3).sb g3.at_ s4
 refine⟨_,rfl,_,rfl,_,rfl,_,rfl,a,b,ns,n4,ro,kv,kp,x,y,z,rfl,g4,by omega,v8,n_,hxy,hxz,hyz,Jc,hpl,hW,λrh ws t r n5 H5 s5 h5 z1 z2 Xz XD XF sZ pF hrl=>?_⟩
 have g5:G0 K H5 a b ns n5:=g4.go s5 h5 z1
 obtain⟨l,hlp,hls⟩:=ahc x y z
 obtain⟨N,eN⟩:∃N:bI,N=⟨x,y,z,kp,l⟩:=⟨_,rfl⟩
 have hN:N.ok:=by rw[eN];exact⟨hxy,hxz,hyz,hpl,hlp,hls⟩
 obtain⟨ch,rfl,XH⟩:=IW XF hpl pF
 have hqs:((0,t)::r).length<=41:=by rw[List.length_cons];omega
 have ahu:ch.length=((0,t)::r).length:=by have:=XH.1;rw[uh] at this;exact this
 have hKN:∀q∈(0,t)::r,gM N.kp q.2:=by rw[eN];exact pF
 have XJ:=Xl hpl pF
 have hgood:=ahb hN (qs:=(0,t)::r) rfl sZ hKN
 have apo:1<=ch.length:=by rw[ahu,List.length_cons];omega
 have Ar:N.x≠("":Str):=by rw[eN];exact hx0
 have ahv:rh≠b:=λz=>by rw[z,g4.at_] at Xz;cases Xz
 have rG:Lw P2 ro kk rh kv N ch ((0,t)::r) H5:=by
  rw[eN]
  exact⟨s5 _ _ n_ v8,s5 _ _ Xw Xx,Jc.mono (s5.tu g4.at_) _,XD,XH,Xy.sb g4.at_ s5⟩
 have ahw:∀{H':Hp} {cs':List Addr},cX H' N.x N.y N.z cs' (je ((0,t)::r))->GL H' N.x N.y N.z cs' (lC ((0,t)::r)):=λh=>h.gl λr hr=>Xm (XJ r hr)
 generalize hqe:(0,t)::r=qs at *
 clear XF XD v8 Xx Jc Xy h4 s4 um hkt g3 s3 hkk hT2 jQ g2 s2 h2 s1 h1 dz g0 hT0 s0 hT hS pF sZ
 try dsimp only[dG]
 refine j9 (A:=mL _ _) (λσ' H6=>∃sp cs,σ'=[some (.ref a),some (.ref b),some (.ref ro),some kv,some (.ref kk),some src,some (.ref rh),some (.ref sp),none,none,none,none,none]/\Same H5 H6/\H5 sp=none/\H6 sp=some (.lst (cs.map V.ref))/\cX H6 N.x N.y N.z cs (je qs)/\cs.Nodup/\(∀c∈cs,H5 c=none)/\sp ∉ cs/\cs.length=ch.length) ?_ (λhB=>?_)
 rotate_left
 . refine Ao (cs:=ch) rfl rG.rh (by omega) (Xq rG.cp) λp cs' H6 s6 hpn hp lD hnd hfr hpc=>hB _ _ ⟨p,cs',rfl,s6,hpn,hp,lD.cp rG.cp,hnd,hfr,hpc,lD.1.symm⟩
 rintro _ H6 ⟨sp,cs,rfl,s6,Jd,hsp,vg,hnd,hfr,Je,hcl⟩
 have g6:G0 K H6 a b ns n5:=g5.go (SB.of s6) (s6 _ _ g5.at_) (Int.le_refl _)
 have rH:sp≠b:=λz=>by rw[z,g5.at_] at Jd;cases Jd
 have hcb:∀c∈cs,c≠b:=λc hc z=>by
  have:=hfr c hc
  rw[z,g5.at_] at this;cases this
 have tE:∀r∈je qs,pG r.2.2:=λr hr=>Xm (XJ r hr)
 refine⟨_,rfl,_,rfl,a,b,ns,n5,rfl,g6,by omega,λm H7 m0 _ s7 h7=>?_⟩
 have g7:G0 K H7 a b ns (n5+1):=g6.go s7 h7 (by omega)
 have k7:∀c o,c≠b->H5 c=some o->H7 c=some o:=λc o h1 h=>s7 _ _ h1 (s6 _ _ h)
 have Av:∀{H':Hp},(∀c o,c≠b->H5 c=some o->H' c=some o)->H' ro=some (.lst [.str N.x,.str N.y,.str N.z]):=λk=>k _ _ n_ rG.ro
 have off:∀{H H':Hp},(∀c o,c≠b->H5 c=some o->H c=some o)->tD b cs H H'->∀c o,c≠b->H5 c=some o->H' c=some o:=λk k' c o h1 h=>k' c o h1 (λz=>by rw[hfr c z] at h;cases h) (k c o h1 h)
 refine⟨_,rfl,_,rfl,_,rfl,_,rfl,_,rfl,_,_,rfl,rfl,(by show(0:Int)<7;decide),a,b,ns,n5+1,ro,sp,N.x,N.y,N.z,cs,je qs,_,rfl,g7,by omega,Av k7,n_,hN.xy,hN.xz,hN.yz,s7 _ _ rH hsp,rH,vg.keep (λc hc o h=>s7 _ _ (hcb c hc) h),tE,hnd,by omega,by omega,λXM H8 Jf h8 Jg hp8=>?_⟩
 have k8:=off k7 Jf
 have Aw:H8 sp=some (.lst (cs.map V.ref)):=Jf _ _ rH Je (s7 _ _ rH hsp)
 have Jh:∀{H':Hp} {n':Int},0<=n'->(∀c o,c≠b->H5 c=some o->H' c=some o)->H' b=some (.lst [.int n'])->G0 K H' a b ns n':=λ{H' n'} hn k hb'=>by
  refine⟨?_,h63,hb',hn⟩
  rcases g5.oV with⟨o,e⟩|e
  . by_cases z:a=b
    . rw[z,g5.at_] at e;cases e
    . exact .inl ⟨o,k _ _ z e⟩
  . exact .inr e
 have g8:G0 K H8 a b ns (n5+3):=Jh (by omega) k8 (by rw[h8];congr 4;omega)
 try dsimp only[dG]
 refine j9 (A:=lH _ _ _) (λσ' H9=>σ'=[some (.ref a),some (.ref b),some (.ref ro),some kv,some (.ref kk),some src,some (.ref rh),some (.ref sp),some (.int m),none,none,none,none]/\∃uo n9,0<=n9/\n9<=n5+5/\H9 b=some (.lst [.int n9])/\(∀c o,c≠b->H5 c=some o->H9 c=some o)/\H9 sp=some (.lst (cs.map V.ref))/\cX H9 N.x N.y N.z cs uo/\∀r∈uo,pG r.2.2) ?_ (λhB=>?_)
 rotate_left
 . refine⟨_,rfl,_,_,rfl,rfl,⟨by decide,by decide⟩,_,_,rfl,rfl,(by show(0:Int)<2;decide),rfl,_,rfl,cu (λc=>?_) (λc=>?_)⟩
   . refine⟨_,rfl,_,rfl,_,rfl,_,rfl,_,rfl,_,_,rfl,rfl,⟨by decide,by decide⟩,_,_,rfl,rfl,(by show(0:Int)<5;decide),a,b,ns,n5+3,ro,sp,N.x,N.y,N.z,cs,XM,_,rfl,g8,by omega,Av k8,n_,hN.xy,hN.xz,hN.yz,Aw,rH,Jg,hp8,hnd,by omega,by omega,λuo H9 XQ h9 Ax hp9=>?_⟩
     exact hB _ _ ⟨rfl,uo,_,by omega,by omega,h9,off k8 XQ,XQ _ _ rH Je Aw,Ax,hp9⟩
   . exact hB _ _ ⟨rfl,XM,_,by omega,by omega,g8.at_,k8,Aw,Jg,hp8⟩
 rintro _ H9 ⟨rfl,uo,n9,ahx,hn9,h9,k9,XR,Ax,hp9⟩
 have g9:G0 K H9 a b ns n9:=Jh ahx k9 h9
 have XS:Tu H5 H9:=λc xs h=>k9 c _ (λz=>by rw[z,g5.at_] at h;cases h) h
 have X3:KA H9 kv N.kp:=rG.ka.mono XS _
 refine⟨_,rfl,_,rfl,_,rfl,_,rfl,_,rfl,a,b,ns,n9,ro,kv,N.kp,sp,N.x,N.y,N.z,cs,uo,rfl,g9,by omega,Av k9,n_,hN.xy,hN.xz,hN.yz,X3,hN.p,XR,rH,Ax,hp9,hnd,by omega,by omega,λjd gs wO X4 h10 X5 X6 Ji=>?_⟩
 have k10:∀c o,c≠b->H5 c=some o->wO c=some o:=λc o h1 h=>X4 c o h1 (λz=>by rw[z,Jd] at h;cases h) (λz=>by rw[hfr c z] at h;cases h) (k9 c o h1 h)
 have X7:Tu H5 wO:=λc xs h=>k10 c _ (λz=>by rw[z,g5.at_] at h;cases h) h
 have Ay:Lw P2 ro kk rh kv N ch qs wO:=rG.keep (λc o _ _ hl e=>k10 c o (λz=>by
  rw[z,g5.at_] at e
  cases e
  rcases hl _ rfl with q|q
  . exact n_ (q.symm.trans z)
  . exact ahv (q.symm.trans z)) e) X7 (rG.lam.keep λc o ho e=>k10 c o (λz=>by rw[z,g5.at_] at e;cases e;exact ho _ rfl) e)
 have Jj:iV wO N sp jd gs:=⟨hN,X5,X6,Ji⟩
 clear off Av Jh g9 g8 X3 XS k9 k8 k7 h8 h9 Ax Jg XR Aw g7 g6 h7 s7 Jf X4 vg hnd hfr Je
 refine⟨_,rfl,_,rfl,_,rfl,ro,kv,sp,N,jd,gs,rfl,Ay.ro,Ay.ka,Jj,λdv W8 wQ hA=>?_⟩
 have wU:=Ay.same wQ
 try dsimp only[dG]
 refine j9 (A:=mL _ _) (λσ' rJ=>∃vw,σ'=[some (.ref a),some (.ref b),some (.ref ro),some kv,some (.ref kk),some src,some (.ref rh),some (.ref sp),some (.int m),some dv,some (.ref vw),none,none]/\Lw P2 ro kk rh kv N ch qs rJ/\Lv P2 C vw sp dv N jd gs rJ) ?_ (λhB=>?_)
 rotate_left
 . refine⟨_,rfl,ro,_,_,_,rfl,rfl,aq.of wU.ro,rfl,_,rfl,ro,_,_,_,rfl,rfl,aq.of wU.ro,rfl,_,rfl,ro,_,_,_,rfl,rfl,aq.of wU.ro,rfl,λvw dx hvw hdx hne=>?_⟩
   refine⟨vw,dx,N.x,N.y,N.z,rfl,aD,λrJ ahy ahz=>⟨rfl,?_⟩⟩
   have s12:Same W8 rJ:=λc o h=>ahy c o (aR h hvw) (by rw[au (aR h hvw),au (aR h hdx)];exact h)
   refine hB _ _ ⟨vw,rfl,wU.same s12,(Jj.same wQ).same s12,⟨dx,ahz⟩,?_⟩
   cases hd:dW N gs with
   |none=>rw[hd] at hA;exact hA
   |some ws=>
    rw[hd] at hA
    obtain⟨p,e,hp⟩:=hA
    exact⟨p,e,s12 _ _ hp⟩
 rintro _ rJ ⟨vw,rfl,Jk,X8⟩
 clear wU wQ hA Ay Jj k10 X7 X5 X6
 try dsimp only[dG]
 refine j9 (A:=Bv _ _ _) (λσ' mG=>∃x11 x12,σ'=[some (.ref a),some (.ref b),some (.ref ro),some kv,some (.ref kk),some src,some (.ref rh),some (.ref sp),some (.int m),some dv,some (.ref vw),x11,x12]/\Lw P2 ro kk rh kv N ch qs mG/\Lv P2 C vw sp dv N jd gs mG) ?_ (λhB=>?_)
 rotate_left
 . refine⟨gO,λpl hpl'=>?_⟩
   have spl:Same rJ (upd rJ pl (.lst [.int 0,.int 1])):=Same.new hpl'
   refine⟨pl,rfl,⟨_,aq.of aD⟩,qH (xs:=[.int 0,.int 1]) (λi σ' mG=>∃x11 x12,σ'=[some (.ref a),some (.ref b),some (.ref ro),some kv,some (.ref kk),some src,some (.ref rh),some (.ref sp),some (.int m),some dv,some (.ref vw),x11,x12]/\Lw P2 ro kk rh kv N ch qs mG/\Lv P2 C vw sp dv N jd gs mG/\mG pl=some (.lst [.int 0,.int 1])) ⟨_,_,rfl,Jk.same spl,X8.dw (Kp.of spl) Jk.lam,aD⟩ ?_ ?_ ?_⟩
   . rintro i σ' mG _ ⟨x11,x12,rfl,_,_,h⟩
     exact aq.of h
   . rintro i tv σ' mG htv ⟨x11,x12,rfl,lw,lv,X_⟩
     try dsimp only[dG]
     refine⟨_,rfl,_,rfl,_,rfl,Ao (cs:=jd) rfl lv.rin.at_ (by have:=lv.rin.pP;omega) (Xp lv.rin.gl) λp cs' wV oh hpn hp lD _ _ _=>?_⟩
     have iy:=lw.same oh
     have qt:=lv.dw (Kp.of oh) lw.lam
     refine⟨vw,kk,src,p,N,cs',gs,rfl,iy.pt qt.vw Ar hN hp (lD.gl oh lv.rin.gl) (by rw[<-lD.1];exact Ji),λhd tq d v' Jl fp _ _ _ mH wW _ gw=>?_,λws hd tq pw Jl mH wW gw ahA=>?_⟩
     . have qu:=iy.dw mH wW
       have qw:=qt.dw mH iy.lam
       have hdu:=qw.du
       rw[hd] at hdu
       obtain rfl:dv=.non:=hdu
       refine⟨_,rfl,rfl,_,rfl,cZ ?_⟩
       refine⟨_,rfl,tq,_,_,_,rfl,rfl,aN.of gw,rfl,rfl,_,rfl,?_⟩
       rw[decide_eq_true rfl]
       refine bU ?_
       refine⟨_,rfl,rfl,_,rfl,?_⟩
       rw[decide_eq_true rfl]
       refine bU ?_
       exact⟨_,_,rfl,qu,qw,mH.ls iy.lam (by intro ps z;cases z) (oh _ _ X_)⟩
     . have qu:=iy.dw mH wW
       have qw:=qt.dw mH iy.lam
       have hdu:=qw.du
       rw[hd] at hdu
       obtain⟨pd,rfl,hpd⟩:=hdu
       refine⟨_,rfl,rfl,_,rfl,bU ?_⟩
       refine⟨_,rfl,rfl,_,rfl,cZ ?_⟩
       refine⟨_,rfl,tq,_,_,_,rfl,rfl,aN.of gw,rfl,rfl,_,rfl,?_⟩
       rw[decide_eq_true rfl]
       refine bU ?_
       refine⟨_,rfl,tq,_,_,_,rfl,rfl,aN.of gw,rfl,_,rfl,pw,pd,ws,rfl,ahA,hpd,(agX hd).2,λH16 Jm=>⟨true,rfl,bU ?_⟩⟩
       exact⟨_,_,rfl,qu.same Jm,qw.dw (Kp.of Jm) qu.lam,Jm _ _ (mH.ls iy.lam (by intro ps z;cases z) (oh _ _ X_))⟩
   . rintro σ' mG ⟨x11,x12,rfl,lw,lv,_⟩
     exact hB _ _ ⟨x11,x12,rfl,lw,lv⟩
 rintro _ mG ⟨x11,x12,rfl,Az,qy⟩
 clear Jk X8
 try dsimp only[dG]
 refine j9 (A:=lH _ _ _) (λσ' wV=>∃x11 x12,σ'=[some (.ref a),some (.ref b),some (.ref ro),some kv,some (.ref kk),some src,some (.ref rh),some (.ref sp),some (.int m),some dv,some (.ref vw),x11,x12]/\Lw P2 ro kk rh kv N ch qs wV/\Lv P2 C vw sp dv N jd gs wV) ?_ (λhB=>?_)
 rotate_left
 . have hdu:=qy.du
   cases hd:dW N gs with
   |none=>
    rw[hd] at hdu
    obtain rfl:dv=.non:=hdu
    refine⟨_,rfl,rfl,_,rfl,?_⟩
    rw[decide_eq_true rfl]
    exact bU (hB _ _ ⟨_,_,rfl,Az,qy⟩)
   |some ws=>
    rw[hd] at hdu
    obtain⟨pd,rfl,hpd⟩:=hdu
    refine⟨_,rfl,rfl,_,rfl,cZ ?_⟩
    refine⟨_,rfl,_,rfl,_,rfl,Ao (cs:=jd) rfl qy.rin.at_ (by have:=qy.rin.pP;omega) (Xp qy.rin.gl) λp cs' wV oh hpn hp lD _ _ _=>?_⟩
    have iy:=Az.same oh
    have qt:=qy.dw (Kp.of oh) Az.lam
    refine⟨vw,kk,src,p,N,cs',gs,rfl,iy.pt qt.vw Ar hN hp (lD.gl oh qy.rin.gl) (by rw[<-lD.1];exact Ji),⟨ws,hd⟩,λJl mH wW=>⟨true,rfl,bU ?_⟩⟩
    exact hB _ _ ⟨_,_,rfl,iy.dw mH wW,qt.dw mH iy.lam⟩
 rintro _ wV ⟨x13,x14,rfl,iy,qt⟩
 clear Az qy
 refine⟨_,rfl,_,rfl,_,rfl,Ao (cs:=ch) rfl iy.rh (by omega) (Xq iy.cp) λp cs' Jl Yb hpn hp lD _ _ _=>?_⟩
 have qu:=iy.same Yb
 have qw:=qt.dw (Kp.of Yb) iy.lam
 have hcl':cs'.length<=41:=by rw[<-lD.1];omega
 have Yc:=lD.cp iy.cp
 refine⟨vw,kk,src,p,N,cs',lC qs,rfl,qu.pt qw.vw Ar hN hp (ahw Yc) hcl',λ_ tq d v' H16 fp lu hLd hRd Yd ahD hO gw=>?_,λws hd=>by rw[hgood] at hd;cases hd⟩
 have rK:=qu.dw Yd ahD
 have ahE:=qw.dw Yd qu.lam
 have eqs:je (flat 0 d)=je qs:=by
  obtain⟨rE,e2,h2⟩:=IW hRd hN.p (lu.all 0)
  rw[<-Xo e2] at h2
  exact ag8 h2 Yc
 have ahF:(flat 0 d).length<=60:=by rw[hLd,Xn];omega
 obtain⟨hSm,hDp⟩:=ag5 lu ahF
 obtain⟨dx,hvw⟩:=ahE.vw
 refine⟨_,rfl,tq,_,_,_,rfl,rfl,aN.of gw,rfl,rfl,_,rfl,?_⟩
 rw[decide_eq_true rfl]
 refine bU ?_
 refine⟨_,rfl,vw,dx,_,rfl,hvw,rfl,_,rfl,vw,kk,dx,N,kv,rfl,hvw,rK.kk,rK.ka,hN,Ar,rK.lam,λrk H17 A_ ahH tZ=>?_⟩
 have ahI:=rK.dw A_ ahH
 have Ye:=A_.ls rK.lam (by intro ps z;cases z) hvw
 have ahJ:=A_.tu rK.lam _ _ gw
 have ahK:=hO.dw A_ rK.lam
 refine⟨_,rfl,vw,dx,_,rfl,Ye,rfl,_,rfl,_,rfl,tq,_,_,_,rfl,rfl,aN.of ahJ,rfl,vw,.ref kk,v',dx,N.x,N.y,N.z,d,fp,_,rfl,Ye,hN.xy,hN.xz,hN.yz,ahK,lu,by omega,hSm,by omega,λps ws H18 apw Yg hps hRs=>?_⟩
 have Yh:=ahI.same Yg
 obtain⟨cs3,rfl,Yi⟩:=IW hRs hN.p (lu.all 0)
 rw[eqs] at Yi
 exact⟨_,rfl,rk,ps,rh,N,cs3,ch,je qs,rfl,tZ.same Yg,hN,hps,Yh.rh,Yi,Yh.cp,by rw[<-hqe,eN];exact Xl hpl (by rw[eN] at hKN;rw[hqe];exact hKN),by rw[uh];omega,λH19 _=>done _⟩
end
end Pb
namespace Pb
open PySem PySem.W
noncomputable def treeOf:List Obj->Nat->BT->Option BT
 |[],_,t=>some t
 |o::l,n,t=>match((t.ins n o).get n).isSome with
  |true=>treeOf l (n+1) (t.ins n o)
  |false=>none
theorem Yj {life:Life}:∀(l:List Obj) (n:Nat) (t t':BT),treeOf l n t=some t'->absHeap t' (n+l.length) life=⟨(absHeap t n life).objs++l.toArray,life⟩
 |[],n,t,t',h=>by
  cases h
  show absHeap t n life=_
  have:(absHeap t n life).objs++#[]=(absHeap t n life).objs:=Array.append_empty
  rw[this];rfl
 |o::l,n,t,t',h=>by
  unfold treeOf at h
  cases e:((t.ins n o).get n).isSome with
  |false=>rw[e] at h;cases h
  |true=>
   rw[e] at h
   have:=Yj (life:=life) l (n+1) _ t' h
   rw[absHeap_ins e] at this
   have e2:n+(o::l).length=n+1+l.length:=by rw[List.length_cons];omega
   rw[e2,this]
   show Heap.mk ((absHeap t n life).objs.push o++l.toArray) life=_
   congr 1
   apply Array.ext'
   simp
noncomputable def wX (tb:String->Option Builtin) (p:Program) (w:World) (n₀:Nat) (ann:Option Value):Nat->SharedT->Thread->Option SharedT
 |0,_,_=>none
 |n+1,s,t=>match through t with
  |true=>some s
  |false=>match stepOk n₀ ann t with
   |false=>none
   |true=>match stepT (denote tb) p w s t with
    |some (s',t')=>wX tb p w n₀ ann n s' t'
    |none=>none
theorem Yk {tb:String->Option Builtin}{p:Program}{w:World}{n₀:Nat}{ann:Option Value}:∀{n:Nat}{s s':SharedT}{t:Thread},wX tb p w n₀ ann n s t=some s'->topRun tb p w n₀ ann n s.abs t=some s'.abs
 |0,_,_,_,h=>by cases h
 |n+1,s,s',t,h=>by
  unfold wX at h
  unfold topRun
  cases he:through t with
  |true=>rw[he] at h;cases h;rfl
  |false=>
   rw[he] at h
   cases hk:stepOk n₀ ann t with
   |false=>rw[hk] at h;cases h
   |true=>
    rw[hk] at h
    cases hs:stepT (denote tb) p w s t with
    |none=>rw[hs] at h;cases h
    |some r=>obtain⟨s₂,t₂⟩:=r;rw[hs] at h;rw[stepT_spec hs];exact Yk h
noncomputable abbrev Jo:=@W.Fast.tw10156331382660048174
noncomputable abbrev Jp:=@W.Fast.tw11892475500146522536
noncomputable abbrev Jq:=@W.Fast.tw14364793385576792824
noncomputable abbrev Yl:=@W.Fast.tw6613529449190102663
noncomputable abbrev seenQ:=@W.Fast.tw4187177175401517315
noncomputable def Ba (p:Program) (w:World) (n₀:Nat) (ann:Option Value):Nat->SharedT->Thread->Option SharedT
 |0,_,_=>none
 |n+1,s,t=>match through t with
  |true=>some s
  |false=>match Yl n₀ ann t with
   |false=>none
   |true=>match Jo (Jp Jq) p w s t with
    |some (s',t')=>Ba p w n₀ ann n s' t'
    |none=>none
theorem Ym {p:Program}{w:World}{n₀:Nat}{ann:Option Value}:∀(n:Nat) (s:SharedT) (t:Thread),Ba p w n₀ ann n s t=wX treeTable p w n₀ ann n s t
 |0,_,_=>rfl
 |n+1,s,t=>by
  unfold Ba wX
  have e1:Yl n₀ ann t=stepOk n₀ ann t:=congrFun (congrFun (congrFun W.Fast.te6613529449190102663.symm _) _) _
  have e2:Jo (Jp Jq) p w s t=stepT (denote treeTable) p w s t:=by rw[show @Jo=@stepT from W.Fast.te10156331382660048174.symm,show @Jp=@denote from W.Fast.te11892475500146522536.symm,show @Jq=@treeTable from W.Fast.te14364793385576792824.symm]
  rw[e1,e2]
  simp only[Ym n]
noncomputable def looksAt (p q:Program) (loose:List Str) (Xt:Shared->Bool) {α:Type}(Yf:Shared->α) (g0:Bool) (h₀:Heap) (s:Shared):=
 ((staticsOk (importedModules p.main.body) h₀ s.heap && namesBound p s.heap && gensDone s && laidKept h₀ s.heap),seenQ q loose (importedModules p.main.body) Xt g0 s,Yf s)
noncomputable def Yn (p q:Program) (loose:List Str) (Xt:Shared->Bool) {α:Type}(Yf:Shared->α) (N:Nat) (g0:Bool) (w:World) (os:OsState):=
 match(boot_heap w.params).isNs mainGlobals with
 |true=>match treeOf (boot_heap w.params).objs.toList 0 .nil with
  |some T=>(Ba p w (boot_heap w.params).objs.size ((boot_heap w.params).nsMap mainGlobals "__annotations__") N ⟨T,(boot_heap w.params).objs.size,(boot_heap w.params).life,#[],boot_drawn,boot_toks,os⟩ (topStub p)).map λ(s:SharedT)=>looksAt p q loose Xt Yf g0 (boot_heap w.params) s.abs
  |none=>none
 |false=>none
theorem ahN {p q:Program}{loose:List Str}{Xt:Shared->Bool}{α:Type}{Yf:Shared->α}{Ya:World->α}{N:Nat}{g0:Bool}
 (e:opening p=plainProg p.main.scope.names) (hN:Nat.ble 600 N=true) (f:∀s,fenceModules? p s=some s)
 (run:∀w os,Yn p q loose Xt Yf N g0 w os=some (true,openGood q loose,Ya w)):LeftO p q loose Xt Yf Ya N g0:=λw=>by
 obtain⟨⟨h,gs,d,k,os⟩,e1,e'⟩:=Option.map_eq_some_iff.mp (boot_open e hN f w)
 obtain⟨rfl,rfl,rfl,rfl⟩:h=boot_heap w.params/\gs=Array.mk []/\d=boot_drawn/\k=boot_toks:=by simpa using e'
 have r:=run w os
 unfold Yn at r
 cases z:(boot_heap w.params).isNs mainGlobals with
 |false=>rw[z] at r;cases r
 |true=>
  rw[z] at r
  dsimp only at r
  cases y:treeOf (boot_heap w.params).objs.toList 0 .nil with
  |none=>rw[y] at r;cases r
  |some T=>
   rw[y] at r
   obtain⟨s,r1,r2⟩:=Option.map_eq_some_iff.mp r
   rw[Ym] at r1
   have r3:=Yk r1
   have hT:=Yj (life:=(boot_heap w.params).life) _ _ _ _ y
   have hS:SharedT.abs ⟨T,(boot_heap w.params).objs.size,(boot_heap w.params).life,#[],boot_drawn,boot_toks,os⟩=⟨boot_heap w.params,#[],boot_drawn,boot_toks,os⟩:=by
    unfold SharedT.abs
    dsimp only
    rw[Nat.zero_add,Array.length_toList] at hT
    rw[hT]
    have e0:(absHeap BT.nil 0 (boot_heap w.params).life).objs=#[]:=rfl
    rw[e0,Array.empty_append,Array.toArray_toList]
   rw[hS] at r3
   have t:topFrom treeTable p w N ⟨boot_heap w.params,#[],boot_drawn,boot_toks,os⟩=some s.abs:=by
    unfold topFrom
    dsimp only
    rw[z,r3]
    have l1:=congrArg (λz=>z.1) r2
    dsimp only[looksAt] at l1
    show(match staticsOk (importedModules p.main.body) (boot_heap w.params) s.abs.heap && namesBound p s.abs.heap && gensDone s.abs && laidKept (boot_heap w.params) s.abs.heap with|true=>_|false=>_)=_
    rw[l1]
   unfold openEnds
   rw[e1]
   show(topFrom treeTable p w N _).map _=_
   rw[t]
   have l2:=congrArg (λz=>z.2) r2
   dsimp only[looksAt] at l2
   rw[show @seenQ=@openSeen from W.Fast.te4187177175401517315.symm] at l2
   exact congrArg some l2
end Pb
namespace Pb
open PySem L2
theorem cY {K:W.Frag}{mg:Str->Option Value}{h:Heap}{x:Str}{ps:List Str}{st:Stmt}{f:Addr}{oc:Value}{od an:Option Addr}{osl:Array (Option Value)}{kV doc pm cdv ct:Value}(X:K.In h)(G:h.Ns mainGlobals mg)(a:W.nsIn K mainGlobals x=some (some (.ref f)))
 (l:K.lookup f=some ⟨oc,od,.func (W.fnOf x x (bO st) (bG st) (aM st) .none kV doc pm an cdv ct),osl⟩) (c:W.codeIn K cdv x=true) (k:W.keepIn K (.ref f)=true)
 (hb:∀(kV doc pm:Value) (an:Option Addr) (cdv ct:Value) (us:List Value),us.length=ps.length->bindArgs (W.fnOf x x (bO st) (bG st) (aM st) .none kV doc pm an cdv ct) ⟨us,[]⟩=pure (ps.zip us)):
 Dn K mg x ps st f (W.fnOf x x (bO st) (bG st) (aM st) .none kV doc pm an cdv ct):=by
 have F:=abI (st:=st) l c k
 exact⟨F,F.binds hb,W.mg_of X G a⟩
theorem uq {K:W.Frag}{x ql:Str}{ps:List Str}{st:Stmt}{f:Addr}{oc:Value}{od an:Option Addr}{osl:Array (Option Value)}{kV doc pm cdv ct:Value}
 (l:K.lookup f=some ⟨oc,od,.func (W.fnOf x ql (bO st) (bG st) (aM st) .none kV doc pm an cdv ct),osl⟩) (c:W.codeIn K cdv ql=true) (k:W.keepIn K (.ref f)=true)
 (hb:∀(kV doc pm:Value) (an:Option Addr) (cdv ct:Value) (us:List Value),us.length=ps.length->bindArgs (W.fnOf x ql (bO st) (bG st) (aM st) .none kV doc pm an cdv ct) ⟨us,[]⟩=pure (ps.zip us)):
 Dm K x ql ps st f (W.fnOf x ql (bO st) (bG st) (aM st) .none kV doc pm an cdv ct):=by
 have F:jZ K x ql st f _:=⟨⟨oc,od,kV,doc,pm,an,cdv,ct,osl,rfl,l,c⟩,k⟩
 exact⟨F,F.binds hb⟩
theorem ahO {K:W.Frag}{h:Heap}{f:Addr}(X:K.In h)(e:W.isFn K (.ref f)=true):∃o,h.get? f=some o/\o.cls=.type "function":=by
 have e:W.typeIn K (.ref f)=some (.type "function"):=beq_iff_eq.mp e
 obtain⟨o,ho,hc⟩:=Option.map_eq_some_iff.mp (show(K.lookup f).map (·.cls)=_ from e)
 exact⟨o,X _ _ ho,hc⟩
open PySem.W in
theorem ahP {K:Frag}{h:Heap}{N:Addr}{n:Str}{v:Value}(X:K.In h)(ok:nsOkIn K N=true)(e:nsIn K N n=some (some v)):h.nsMap N n=some v:=by
 obtain⟨o,es,ep,ho,hd,_,hf⟩:h.Ns N (h.nsMap N):=.of_isNs (isNs_of_in X ok)
 unfold nsIn at e
 split at e
 . rename_i c d es' n' sl q
   have:=X _ _ q
   rw[ho] at this
   cases this
   cases hd
   split at e
   . rename_i e' he
     cases e
     rw[<-hf]
     unfold nsFind findBy
     rw[<-Array.find?_toList,he]
     rfl
   . split at e <;> cases e
 . cases e
open PySem.W in
noncomputable def Jr (K:Frag) (C fI:Addr) (bmB:List Value) (newId:String):Bool:=match K.lookup C with
 |some ⟨.type "type",_,.cls cd,sl⟩=>(match cd.mro,sl.toList with
  | .ref C'::bm,[_,_,_,_,some (.builtin n),_]=>C' == C && n == newId && !cd.hasDel && tailIn K bmB bm && nsOkIn K cd.ns && nsIn K cd.ns "__init__" == some (some (.ref fI))
  |_,_=>false)
 |_=>false
theorem ahQ {K:W.Frag}{h:Heap}{C fI:Addr}{iZ:List Value}{nid:String}(X:K.In h)(q:Jr K C fI iZ nid=true)(hf:W.isFn K (.ref fI)=true):p7 h C fI iZ nid:=by
 unfold Jr at q
 split at q
 next dct dat slo look=>
  split at q
  next D tl s0 s1 s2 s3 nm s5 hmro hsl=>
   obtain⟨q,Js⟩:=Bool.and_eq_true_iff.mp q
   obtain⟨q,hNs⟩:=Bool.and_eq_true_iff.mp q
   obtain⟨q,hTail⟩:=Bool.and_eq_true_iff.mp q
   obtain⟨q,ur⟩:=Bool.and_eq_true_iff.mp q
   obtain⟨hC,hId⟩:=Bool.and_eq_true_iff.mp q
   have hC:=beq_iff_eq.mp hC
   have hId:=beq_iff_eq.mp hId
   have Js:=beq_iff_eq.mp Js
   have ur:dat.hasDel=false:=by
    cases e:dat.hasDel with
    |false=>rfl
    |true=>rw[e] at ur;cases ur
   subst hC
   subst hId
   obtain⟨c1,c2,c3,c4,c5,c6,c7,c8,c9,tL,tM⟩:=dat
   have hmro:c3=_:=hmro
   have ur:tM=false:=ur
   subst hmro
   subst ur
   obtain⟨sl⟩:=slo
   have hsl:sl=_:=hsl
   subst hsl
   obtain⟨oI,hI,zL⟩:=ahO X hf
   exact⟨tl,c4,c1,c5,c2,c6,c7,c8,c9,tL,dct,s0,s1,s2,s3,s5,_,oI,X _ _ look,.of_isNs (W.isNs_of_in X hNs),ahP X hNs Js,W.tail_of_in X hTail,hI,zL⟩
  next=>cases q
 next=>cases q
theorem all_mk {l:W.OpenLaw}{w:World}{K:W.Frag}{h:Heap}{mg:Str->Option Value}{fa:Addr}{f0 f1 f2 f3 f4 f5 f6 f7 f8 f9 Jt f11 Ju Jv Jw Jx Jy Jz JB JC JD JF JG JH JK JL JM JN JQ JR:Addr}(X:K.In h)(G:h.Ns mainGlobals mg)(hfa:mg "law"=some (.ref fa))
 {od0 an0 od1 an1 od2 an2 od3 an3 od4 an4 od5 an5 od6 an6 od7 an7 od8 an8 od9 an9 aic aie aif aii aij aik ail ain aio aip aiq air ais ait aiu aiv aiw aix aiy aiz aiA aiB aiC aiD aiE aiF aiG aiH aiI aiJ aiK aiL aiM aiN aiO aiP aiQ aiR aiS Yo:Option Addr} {sl0 VP sl2 sl3 sl4 sl5 sl6 sl7 sl8 sl9 ai1 ai2 ai3 ai4 ai5 ai6 ai7 ai8 ai9 ai_ aja ajb ajc ajd aje ajf ajg ajh aji ajj:Array (Option Value)} {oc0 kV0 dc0 pm0 Yp ct0 oc1 kV1 dc1 pm1 Yq zE oc2 kV2 dc2 pm2 JT Fo oc3 kV3 dc3 pm3 Yr ct3 oc4 kV4 dc4 pm4 Ys ct4 oc5 kV5 dc5 pm5 Yt ct5 oc6 kV6 dc6 pm6 Yu ct6 oc7 kV7 dc7 pm7 Yv ct7 oc8 kV8 dc8 pm8 Yw ct8 oc9 kV9 dc9 pm9 Yx ct9 aj6 aj7 aj8 aj9 Yy aj_ akb akc akd ake Yz akf akg akh aki akj YB akk akl akm akn ako YC akp akq akr aks akt YD aku akv akx aky akz YF akA akB akC akD akE YG akF akG akH akI akJ YH akK akL akM akN akO YJ akP akQ akR akS akT YK akU akV akW akX akY YL akZ ak0 ak1 ak2 ak3 YM ak4 ak5 ak6 ak7 ak8 YQ ak9 ak_ ala alb alc YS ald ale alf alg alh YT ali alj alk alm aln YW alo alp alq alr als YX alu alv alw alx aly YZ alz alA alB alC alD Y0 alE alF Y4 Y5 Y6 JV Y7:Value}
 (a0:W.nsIn K mainGlobals "is_plain"=some (some (.ref f0))) (l0:K.lookup f0=some ⟨oc0,od0,.func (W.fnOf "is_plain" "is_plain" (bO (top 9)) (bG (top 9)) (aM (top 9)) .none kV0 dc0 pm0 an0 Yp ct0),sl0⟩) (c0:W.codeIn K Yp "is_plain"=true) (k0:W.keepIn K (.ref f0)=true)
 (a1:W.nsIn K mainGlobals "kind_at"=some (some (.ref f1))) (l1:K.lookup f1=some ⟨oc1,od1,.func (W.fnOf "kind_at" "kind_at" (bO (top 10)) (bG (top 10)) (aM (top 10)) .none kV1 dc1 pm1 an1 Yq zE),VP⟩) (c1:W.codeIn K Yq "kind_at"=true) (k1:W.keepIn K (.ref f1)=true)
 (a2:W.nsIn K mainGlobals "sorted_fields"=some (some (.ref f2))) (l2:K.lookup f2=some ⟨oc2,od2,.func (W.fnOf "sorted_fields" "sorted_fields" (bO (top 11)) (bG (top 11)) (aM (top 11)) .none kV2 dc2 pm2 an2 JT Fo),sl2⟩) (c2:W.codeIn K JT "sorted_fields"=true) (k2:W.keepIn K (.ref f2)=true)
 (a3:W.nsIn K mainGlobals "rows_of"=some (some (.ref f3))) (l3:K.lookup f3=some ⟨oc3,od3,.func (W.fnOf "rows_of" "rows_of" (bO (top 12)) (bG (top 12)) (aM (top 12)) .none kV3 dc3 pm3 an3 Yr ct3),sl3⟩) (c3:W.codeIn K Yr "rows_of"=true) (k3:W.keepIn K (.ref f3)=true)
 (a4:W.nsIn K mainGlobals "misfit"=some (some (.ref f4))) (l4:K.lookup f4=some ⟨oc4,od4,.func (W.fnOf "misfit" "misfit" (bO (top 14)) (bG (top 14)) (aM (top 14)) .none kV4 dc4 pm4 an4 Ys ct4),sl4⟩) (c4:W.codeIn K Ys "misfit"=true) (k4:W.keepIn K (.ref f4)=true)
 (a5:W.nsIn K mainGlobals "record_misfit"=some (some (.ref f5))) (l5:K.lookup f5=some ⟨oc5,od5,.func (W.fnOf "record_misfit" "record_misfit" (bO (top 15)) (bG (top 15)) (aM (top 15)) .none kV5 dc5 pm5 an5 Yt ct5),sl5⟩) (c5:W.codeIn K Yt "record_misfit"=true) (k5:W.keepIn K (.ref f5)=true)
 (a6:W.nsIn K mainGlobals "has_just"=some (some (.ref f6))) (l6:K.lookup f6=some ⟨oc6,od6,.func (W.fnOf "has_just" "has_just" (bO (top 16)) (bG (top 16)) (aM (top 16)) .none kV6 dc6 pm6 an6 Yu ct6),sl6⟩) (c6:W.codeIn K Yu "has_just"=true) (k6:W.keepIn K (.ref f6)=true)
 (a7:W.nsIn K mainGlobals "rows_misfit"=some (some (.ref f7))) (l7:K.lookup f7=some ⟨oc7,od7,.func (W.fnOf "rows_misfit" "rows_misfit" (bO (top 17)) (bG (top 17)) (aM (top 17)) .none kV7 dc7 pm7 an7 Yv ct7),sl7⟩) (c7:W.codeIn K Yv "rows_misfit"=true) (k7:W.keepIn K (.ref f7)=true)
 (a8:W.nsIn K mainGlobals "rank"=some (some (.ref f8))) (l8:K.lookup f8=some ⟨oc8,od8,.func (W.fnOf "rank" "rank" (bO (top 21)) (bG (top 21)) (aM (top 21)) .none kV8 dc8 pm8 an8 Yw ct8),sl8⟩) (c8:W.codeIn K Yw "rank"=true) (k8:W.keepIn K (.ref f8)=true)
 (a9:W.nsIn K mainGlobals "ask_fit"=some (some (.ref f9))) (l9:K.lookup f9=some ⟨oc9,od9,.func (W.fnOf "ask_fit" "ask_fit" (bO (top 23)) (bG (top 23)) (aM (top 23)) .none kV9 dc9 pm9 an9 Yx ct9),sl9⟩) (c9:W.codeIn K Yx "ask_fit"=true) (k9:W.keepIn K (.ref f9)=true)
 (a10:W.nsIn K mainGlobals "ask_stands"=some (some (.ref Jt))) (l10:K.lookup Jt=some ⟨aj6,aic,.func (W.fnOf "ask_stands" "ask_stands" (bO (top 24)) (bG (top 24)) (aM (top 24)) .none aj7 aj8 aj9 aie Yy aj_),ai1⟩) (tL:W.codeIn K Yy "ask_stands"=true) (k10:W.keepIn K (.ref Jt)=true)
 (a11:W.nsIn K mainGlobals "knots_of"=some (some (.ref f11))) (JW:K.lookup f11=some ⟨akb,aif,.func (W.fnOf "knots_of" "knots_of" (bO (top 27)) (bG (top 27)) (aM (top 27)) .none akc akd ake aii Yz akf),ai2⟩) (tM:W.codeIn K Yz "knots_of"=true) (k11:W.keepIn K (.ref f11)=true)
 (a12:W.nsIn K mainGlobals "_law_next"=some (some (.ref Ju))) (yS:K.lookup Ju=some ⟨akg,aij,.func (W.fnOf "_law_next" "_law_next" (bO (top 30)) (bG (top 30)) (aM (top 30)) .none akh aki akj aik YB akk),ai3⟩) (c12:W.codeIn K YB "_law_next"=true) (k12:W.keepIn K (.ref Ju)=true)
 (a13:W.nsIn K mainGlobals "_law_number"=some (some (.ref Jv))) (JX:K.lookup Jv=some ⟨akl,ail,.func (W.fnOf "_law_number" "_law_number" (bO (top 31)) (bG (top 31)) (aM (top 31)) .none akm akn ako ain YC akp),ai4⟩) (JZ:W.codeIn K YC "_law_number"=true) (k13:W.keepIn K (.ref Jv)=true)
 (a14:W.nsIn K mainGlobals "_law_word"=some (some (.ref Jw))) (J0:K.lookup Jw=some ⟨akq,aio,.func (W.fnOf "_law_word" "_law_word" (bO (top 32)) (bG (top 32)) (aM (top 32)) .none akr aks akt aip YD aku),ai5⟩) (J1:W.codeIn K YD "_law_word"=true) (k14:W.keepIn K (.ref Jw)=true)
 (a15:W.nsIn K mainGlobals "_law_names"=some (some (.ref Jx))) (J3:K.lookup Jx=some ⟨akv,aiq,.func (W.fnOf "_law_names" "_law_names" (bO (top 33)) (bG (top 33)) (aM (top 33)) .none akx aky akz air YF akA),ai6⟩) (J4:W.codeIn K YF "_law_names"=true) (J5:W.keepIn K (.ref Jx)=true)
 (a16:W.nsIn K mainGlobals "_law_plain"=some (some (.ref Jy))) (J6:K.lookup Jy=some ⟨akB,ais,.func (W.fnOf "_law_plain" "_law_plain" (bO (top 34)) (bG (top 34)) (aM (top 34)) .none akC akD akE ait YG akF),ai7⟩) (c16:W.codeIn K YG "_law_plain"=true) (J7:W.keepIn K (.ref Jy)=true)
 (a17:W.nsIn K mainGlobals "_law_value"=some (some (.ref Jz))) (J8:K.lookup Jz=some ⟨akG,aiu,.func (W.fnOf "_law_value" "_law_value" (bO (top 40)) (bG (top 40)) (aM (top 40)) .none akH akI akJ aiv YH akK),ai8⟩) (J9:W.codeIn K YH "_law_value"=true) (J_:W.keepIn K (.ref Jz)=true)
 (a18:W.nsIn K mainGlobals "_law_alike"=some (some (.ref JB))) (Ka:K.lookup JB=some ⟨akL,aiw,.func (W.fnOf "_law_alike" "_law_alike" (bO (top 41)) (bG (top 41)) (aM (top 41)) .none akM akN akO aix YJ akP),ai9⟩) (Kc:W.codeIn K YJ "_law_alike"=true) (Ke:W.keepIn K (.ref JB)=true)
 (a19:W.nsIn K mainGlobals "_law_way"=some (some (.ref JC))) (Kf:K.lookup JC=some ⟨akQ,aiy,.func (W.fnOf "_law_way" "_law_way" (bO (top 42)) (bG (top 42)) (aM (top 42)) .none akR akS akT aiz YK akU),ai_⟩) (Kg:W.codeIn K YK "_law_way"=true) (Kh:W.keepIn K (.ref JC)=true)
 (a20:W.nsIn K mainGlobals "_law_turned_names"=some (some (.ref JD))) (Kl:K.lookup JD=some ⟨akV,aiA,.func (W.fnOf "_law_turned_names" "_law_turned_names" (bO (top 43)) (bG (top 43)) (aM (top 43)) .none akW akX akY aiB YL akZ),aja⟩) (Km:W.codeIn K YL "_law_turned_names"=true) (Ko:W.keepIn K (.ref JD)=true)
 (a21:W.nsIn K mainGlobals "_law_put"=some (some (.ref JF))) (Kq:K.lookup JF=some ⟨ak0,aiC,.func (W.fnOf "_law_put" "_law_put" (bO (top 44)) (bG (top 44)) (aM (top 44)) .none ak1 ak2 ak3 aiD YM ak4),ajb⟩) (c21:W.codeIn K YM "_law_put"=true) (Kr:W.keepIn K (.ref JF)=true)
 (a22:W.nsIn K mainGlobals "_law_class"=some (some (.ref JG))) (Ks:K.lookup JG=some ⟨ak5,aiE,.func (W.fnOf "_law_class" "_law_class" (bO (top 45)) (bG (top 45)) (aM (top 45)) .none ak6 ak7 ak8 aiF YQ ak9),ajc⟩) (Ku:W.codeIn K YQ "_law_class"=true) (Kv:W.keepIn K (.ref JG)=true)
 (a23:W.nsIn K mainGlobals "_law_tree_rows"=some (some (.ref JH))) (Kw:K.lookup JH=some ⟨ak_,aiG,.func (W.fnOf "_law_tree_rows" "_law_tree_rows" (bO (top 46)) (bG (top 46)) (aM (top 46)) .none ala alb alc aiH YS ald),ajd⟩) (Ky:W.codeIn K YS "_law_tree_rows"=true) (Kz:W.keepIn K (.ref JH)=true)
 (a24:W.nsIn K mainGlobals "_law_numbers_off"=some (some (.ref JK))) (KC:K.lookup JK=some ⟨ale,aiI,.func (W.fnOf "_law_numbers_off" "_law_numbers_off" (bO (top 47)) (bG (top 47)) (aM (top 47)) .none alf alg alh aiJ YT ali),aje⟩) (KD:W.codeIn K YT "_law_numbers_off"=true) (KH:W.keepIn K (.ref JK)=true)
 (a25:W.nsIn K mainGlobals "_law_rows_off"=some (some (.ref JL))) (KJ:K.lookup JL=some ⟨alj,aiK,.func (W.fnOf "_law_rows_off" "_law_rows_off" (bO (top 48)) (bG (top 48)) (aM (top 48)) .none alk alm aln aiL YW alo),ajf⟩) (KQ:W.codeIn K YW "_law_rows_off"=true) (KR:W.keepIn K (.ref JL)=true)
 (a26:W.nsIn K mainGlobals "_law_fits"=some (some (.ref JM))) (KY:K.lookup JM=some ⟨alp,aiM,.func (W.fnOf "_law_fits" "_law_fits" (bO (top 49)) (bG (top 49)) (aM (top 49)) .none alq alr als aiN YX alu),ajg⟩) (KZ:W.codeIn K YX "_law_fits"=true) (K1:W.keepIn K (.ref JM)=true)
 (a27:W.nsIn K mainGlobals "_law_misfit"=some (some (.ref JN))) (K3:K.lookup JN=some ⟨alv,aiO,.func (W.fnOf "_law_misfit" "_law_misfit" (bO (top 50)) (bG (top 50)) (aM (top 50)) .none alw alx aly aiP YZ alz),ajh⟩) (K4:W.codeIn K YZ "_law_misfit"=true) (K5:W.keepIn K (.ref JN)=true)
 (a28:W.nsIn K mainGlobals "_law_due"=some (some (.ref JQ))) (K6:K.lookup JQ=some ⟨alA,aiQ,.func (W.fnOf "_law_due" "_law_due" (bO (top 51)) (bG (top 51)) (aM (top 51)) .none alB alC alD aiR Y0 alE),aji⟩) (K7:W.codeIn K Y0 "_law_due"=true) (K8:W.keepIn K (.ref JQ)=true)
 (a29:W.nsIn K mainGlobals "law"=some (some (.ref JR))) (K9:K.lookup JR=some ⟨alF,aiS,.func (W.fnOf "law" "law" (bO (top 52)) (bG (top 52)) (aM (top 52)) .none Y4 Y5 Y6 Yo JV Y7),ajj⟩) (K_:W.codeIn K JV "law"=true) (La:W.keepIn K (.ref JR)=true)
 (Lb:W.nsIn K mainGlobals "len"=some none)
 (Ld:W.nsIn K mainGlobals "min"=some none)
 (Le:W.nsIn K mainGlobals "isinstance"=some none)
 (Lf:W.nsIn K mainGlobals "sorted"=some none)
 (Lg:W.nsIn K mainGlobals "all"=some none)
 (Lh:W.nsIn K mainGlobals "range"=some none)
 (Li:W.nsIn K mainGlobals "enumerate"=some none)
 (Lj:W.nsIn K mainGlobals "zip"=some none)
 (Lk:W.nsIn K mainGlobals "int"=some none)
 (Ln:W.nsIn K mainGlobals "bool"=some none)
 (Lp:W.nsIn K mainGlobals "str"=some none)
 (Lq:W.nsIn K mainGlobals "list"=some none)
 (Lr:W.nsIn K mainGlobals "tuple"=some none)
 (Ls:W.nsIn K mainGlobals "dict"=some none)
 (Lx:W.nsIn K mainGlobals "set"=some none)
 {uw:Addr} (Ly:W.nsIn K mainGlobals "ViewError"=some (some (.ref uw)))
 {Lz:Addr} (LK:W.nsIn K mainGlobals "NoView"=some (some (.ref Lz)))
 {LQ:Addr} (LR:W.nsIn K mainGlobals "NoFit"=some (some (.ref LQ)))
 {L_:Addr} (Ma:W.nsIn K mainGlobals "NoPaper"=some (some (.ref L_)))
 (Mf:W.nsIn K mainGlobals "ValueError"=some none)
 {iz ux:Addr} {alG:Value} {alH:Option Addr} {alI:Array (Option Value)} {Y8:ClassData}
 (Mg:W.nsIn K mainGlobals "Unroll"=some (some (.ref iz))) (Y9:K.lookup iz=some ⟨alG,alH,.cls Y8,alI⟩) (Y_:Y8.ns=ux)
 {dO Za:Addr} {alJ:Value} {alK:Option Addr} {alL:Array (Option Value)} {Zb:ClassData}
 (Mh:W.nsIn K mainGlobals "CantPut"=some (some (.ref dO))) (Zc:K.lookup dO=some ⟨alJ,alK,.cls Zb,alL⟩) (Zd:Zb.ns=Za)
 {uy:Addr} {alM alN:Option Addr} {alO:Array (Option Value)} {alP alQ alR alS Ze alT:Value}
 (Zf:W.nsIn K ux "__init__"=some (some (.ref uy))) (Mi:K.lookup uy=some ⟨alP,alM,.func (W.fnOf "__init__" "Unroll.__init__" (bO (bw 28 0)) (bG (bw 28 0)) (aM (bw 28 0)) .none alQ alR alS alN Ze alT),alO⟩) (Mj:W.codeIn K Ze "Unroll.__init__"=true) (Ml:W.keepIn K (.ref uy)=true)
 {uz:Addr} {alU alV:Option Addr} {alW:Array (Option Value)} {alX alY alZ al0 Zg al1:Value}
 (Zh:W.nsIn K ux "behind"=some (some (.ref uz))) (Mp:K.lookup uz=some ⟨alX,alU,.func (W.fnOf "behind" "Unroll.behind" (bO (bw 28 1)) (bG (bw 28 1)) (aM (bw 28 1)) .none alY alZ al0 alV Zg al1),alW⟩) (Mq:W.codeIn K Zg "Unroll.behind"=true) (Bb:W.keepIn K (.ref uz)=true)
 {uD:Addr} {al2 al3:Option Addr} {al4:Array (Option Value)} {al5 al6 al7 al8 Zi al9:Value}
 (Zj:W.nsIn K ux "see"=some (some (.ref uD))) (Mr:K.lookup uD=some ⟨al5,al2,.func (W.fnOf "see" "Unroll.see" (bO (bw 28 2)) (bG (bw 28 2)) (aM (bw 28 2)) .none al6 al7 al8 al3 Zi al9),al4⟩) (Ms:W.codeIn K Zi "Unroll.see"=true) (Bc:W.keepIn K (.ref uD)=true)
 {uE:Addr} {al_ ama:Option Addr} {amb:Array (Option Value)} {amc amd ame amf Zk amg:Value}
 (Zm:W.nsIn K ux "put"=some (some (.ref uE))) (Mt:K.lookup uE=some ⟨amc,al_,.func (W.fnOf "put" "Unroll.put" (bO (bw 28 3)) (bG (bw 28 3)) (aM (bw 28 3)) .none amd ame amf ama Zk amg),amb⟩) (Mv:W.codeIn K Zk "Unroll.put"=true) (Bd:W.keepIn K (.ref uE)=true)
 {uF:Addr} {amh ami:Option Addr} {amj:Array (Option Value)} {amk aml amm amn Zn amo:Value}
 (Zo:W.nsIn K ux "ask_rows"=some (some (.ref uF))) (Mw:K.lookup uF=some ⟨amk,amh,.func (W.fnOf "ask_rows" "Unroll.ask_rows" (bO (bw 28 4)) (bG (bw 28 4)) (aM (bw 28 4)) .none aml amm amn ami Zn amo),amj⟩) (Mx:W.codeIn K Zn "Unroll.ask_rows"=true) (Bf:W.keepIn K (.ref uF)=true)
 {rM:Addr} {amq amr:Option Addr} {ams:Array (Option Value)} {amt amu amv amw Zq amx:Value}
 (Zr:W.nsIn K Za "__init__"=some (some (.ref rM))) (Mz:K.lookup rM=some ⟨amt,amq,.func (W.fnOf "__init__" "CantPut.__init__" (bO (bw 5 0)) (bG (bw 5 0)) (aM (bw 5 0)) .none amu amv amw amr Zq amx),ams⟩) (MF:W.codeIn K Zq "CantPut.__init__"=true) (MJ:W.keepIn K (.ref rM)=true)
 (MK:W.isFn K (.ref uy)=true)
 (at0:W.findIn K (.ref iz) "__init__"=some (some (.ref uy)))
 (MN:W.isFn K (.ref uz)=true)
 (at1:W.findIn K (.ref iz) "behind"=some (some (.ref uz)))
 (M4:W.isFn K (.ref uD)=true)
 (at2:W.findIn K (.ref iz) "see"=some (some (.ref uD)))
 (M5:W.isFn K (.ref uE)=true)
 (M6:W.findIn K (.ref iz) "put"=some (some (.ref uE)))
 (M7:W.isFn K (.ref uF)=true)
 (M8:W.findIn K (.ref iz) "ask_rows"=some (some (.ref uF)))
 (M9:W.isFn K (.ref rM)=true)
 (Zt:W.findIn K (.ref dO) "__init__"=some (some (.ref rM)))
 (M_:W.plainGet K iz Str.empty=true)
 (Nb:W.hasDictIn K iz=true)
 (Nf:W.plainOver K iz=true)
 (Ng:W.findIn K (.ref iz) "__setattr__"=some (some (.builtin "object.__setattr__")))
 (Nh:W.findIn K (.ref iz) "at"=some none)
 (Ni:W.findIn K (.ref iz) "deep"=some none)
 (Nj:W.findIn K (.ref iz) "knot"=some none)
 (Nk:W.makesIn K iz=true)
 (Np:W.keepIn K (.ref iz)=true)
 (Nq:Jr K dO rM Wu "ValueError.__new__"=true)
 (Nr:W.keepIn K (.ref dO)=true)
 (Nt:W.findIn K (.ref dO) "__setattr__"=some (some (.builtin "object.__setattr__")))
 (Nu:W.findIn K (.ref dO) "way"=some none)
 (Bg:W.mroIn K dO (.type "object")=some true)
 (Nv:((W.clsIn K dO).any λcd=>zZ cd.mro && cd.hasDict)=true)
 (Ny:W.findIn K (.ref dO) "__getattribute__"=some (some (.builtin "BaseException.__getattribute__")))
 (Nz:W.findIn K (.ref dO) "__getattr__"=some none)
 (NK:W.findIn K (.ref dO) "__class__"=some (some (.builtin "object.__class__")))
 (NP:W.mroIn K dO (.type "BaseException")=some true)
 (cp_is:(W.clsIn K dO).isSome=true)
 (NQ:W.typeIn K (.ref dO)=some (.type "type"))
 (NT:W.subIn K (.ref dO) (.type "BaseException")=some true)
 (NZ:W.subIn K (.ref dO) (.ref dO)=some true)
 (N5:W.typeIn K (.ref uw)=some (.type "type"))
 (N6:(W.clsIn K uw).isSome=true)
 (N7:W.subIn K (.ref uw) (.type "BaseException")=some true)
 (N8:W.subIn K (.ref dO) (.ref uw)=some true)
 (N_:W.kitOne K (.ref dO) (.type "ValueError")=some true)
 (Oa:W.kitOne K (.ref dO) (.ref dO)=some true)
 (Ob:W.kitAny K (.ref dO) [.ref Lz,.ref LQ,.ref L_]=some false)
 {cS PS:Addr} {amy:Value} {amz:Option Addr} {Zu:Array Value} {amA:Array (Option Value)} (Oc:JT=.ref cS) (Zv:K.lookup cS=some ⟨amy,amz,.fields Zu,amA⟩) (Zw:Zu[11]? =some (.ref PS)) (Od:W.codeHdIn K cS PS=true)
 :∃fd:FuncData,(∀(s:Shared) (v:Value),BindsTo s fd ⟨[v],[]⟩ [("_law_script",v)])/\∀base:Heap,K.In base->base.Ns mainGlobals mg->BM mg base->aH l.prog w K mg base aP 127 fa fd ["_law_script"] (Jb K PS):=by
 have T:Tb mg:=⟨W.mg_none_of X G Lb,W.mg_none_of X G Ld,W.mg_none_of X G Le,W.mg_none_of X G Lf,W.mg_none_of X G Lg,W.mg_none_of X G Lh,W.mg_none_of X G Li,W.mg_none_of X G Lj,W.mg_none_of X G Lk,W.mg_none_of X G Ln,W.mg_none_of X G Lp,W.mg_none_of X G Lq,W.mg_none_of X G Lr,W.mg_none_of X G Ls,W.mg_none_of X G Lx⟩
 have kO:=cY (st:=top 9) (ps:=["kind"]) X G a0 l0 c0 k0 λ_ _ _ _ _ _ us hl=>match us,hl with|[_],_=>rfl
 have kW:=cY (st:=top 10) (ps:=["fields","name"]) X G a1 l1 c1 k1 λ_ _ _ _ _ _ us hl=>match us,hl with|[_,_],_=>rfl
 have qd:=cY (st:=top 11) (ps:=["pairs"]) X G a2 l2 c2 k2 λ_ _ _ _ _ _ us hl=>match us,hl with|[_],_=>rfl
 have qe:=cY (st:=top 12) (ps:=["key","by","pairs"]) X G a3 l3 c3 k3 λ_ _ _ _ _ _ us hl=>match us,hl with|[_,_,_],_=>rfl
 have iK:=cY (st:=top 14) (ps:=["kind","value"]) X G a4 l4 c4 k4 λ_ _ _ _ _ _ us hl=>match us,hl with|[_,_],_=>rfl
 have pW:=cY (st:=top 15) (ps:=["fields","record"]) X G a5 l5 c5 k5 λ_ _ _ _ _ _ us hl=>match us,hl with|[_,_],_=>rfl
 have pU:=cY (st:=top 16) (ps:=["fields","record"]) X G a6 l6 c6 k6 λ_ _ _ _ _ _ us hl=>match us,hl with|[_,_],_=>rfl
 have pY:=cY (st:=top 17) (ps:=["kind","rows"]) X G a7 l7 c7 k7 λ_ _ _ _ _ _ us hl=>match us,hl with|[_,_],_=>rfl
 have kJ:=cY (st:=top 21) (ps:=["kind","row"]) X G a8 l8 c8 k8 λ_ _ _ _ _ _ us hl=>match us,hl with|[_,_],_=>rfl
 have qj:=cY (st:=top 23) (ps:=["kind","seen"]) X G a9 l9 c9 k9 λ_ _ _ _ _ _ us hl=>match us,hl with|[_,_],_=>rfl
 have qg:=cY (st:=top 24) (ps:=["stands"]) X G a10 l10 tL k10 λ_ _ _ _ _ _ us hl=>match us,hl with|[_],_=>rfl
 have h_:=cY (st:=top 27) (ps:=["tree","deep"]) X G a11 JW tM k11 λ_ _ _ _ _ _ us hl=>match us,hl with|[_,_],_=>rfl
 have bB:=cY (st:=top 30) (ps:=["_law_script","_law_at"]) X G a12 yS c12 k12 λ_ _ _ _ _ _ us hl=>match us,hl with|[_,_],_=>rfl
 have j7:=cY (st:=top 31) (ps:=["_law_script","_law_at"]) X G a13 JX JZ k13 λ_ _ _ _ _ _ us hl=>match us,hl with|[_,_],_=>rfl
 have j8:=cY (st:=top 32) (ps:=["_law_script","_law_at"]) X G a14 J0 J1 k14 λ_ _ _ _ _ _ us hl=>match us,hl with|[_,_],_=>rfl
 have oX:=cY (st:=top 33) (ps:=["_law_script","_law_at","_law_many"]) X G a15 J3 J4 J5 λ_ _ _ _ _ _ us hl=>match us,hl with|[_,_,_],_=>rfl
 have oW:=cY (st:=top 34) (ps:=["_law_script","_law_at"]) X G a16 J6 c16 J7 λ_ _ _ _ _ _ us hl=>match us,hl with|[_,_],_=>rfl
 have cR:=cY (st:=top 40) (ps:=["_law_script","_law_at","_law_kind_here","_law_room"]) X G a17 J8 J9 J_ λ_ _ _ _ _ _ us hl=>match us,hl with|[_,_,_,_],_=>rfl
 have fV:=cY (st:=top 41) (ps:=["_law_kind_here","_law_found","_law_due_here"]) X G a18 Ka Kc Ke λ_ _ _ _ _ _ us hl=>match us,hl with|[_,_,_],_=>rfl
 have qm:=cY (st:=top 42) (ps:=["_law_found","_law_due_here"]) X G a19 Kf Kg Kh λ_ _ _ _ _ _ us hl=>match us,hl with|[_,_],_=>rfl
 have pA:=cY (st:=top 43) (ps:=["_law_script","_law_at"]) X G a20 Kl Km Ko λ_ _ _ _ _ _ us hl=>match us,hl with|[_,_],_=>rfl
 have lB:=cY (st:=top 44) (ps:=["_law_view","_law_kind_here","_law_source","_law_seen"]) X G a21 Kq c21 Kr λ_ _ _ _ _ _ us hl=>match us,hl with|[_,_,_,_],_=>rfl
 have qp:=cY (st:=top 45) (ps:=["_law_view","_law_kind_here","_law_source","_law_seen"]) X G a22 Ks Ku Kv λ_ _ _ _ _ _ us hl=>match us,hl with|[_,_,_,_],_=>rfl
 have pB:=cY (st:=top 46) (ps:=["_law_script","_law_at","_law_row_of","_law_part"]) X G a23 Kw Ky Kz λ_ _ _ _ _ _ us hl=>match us,hl with|[_,_,_,_],_=>rfl
 have kh:=cY (st:=top 47) (ps:=["_law_script","_law_at","_law_row_of","_law_rows_here","_law_sort"]) X G a24 KC KD KH λ_ _ _ _ _ _ us hl=>match us,hl with|[_,_,_,_,_],_=>rfl
 have pK:=cY (st:=top 48) (ps:=["_law_script","_law_at","_law_row_of","_law_part","_law_rows_here"]) X G a25 KJ KQ KR λ_ _ _ _ _ _ us hl=>match us,hl with|[_,_,_,_,_],_=>rfl
 have pL:=cY (st:=top 49) (ps:=["_law_kind_here","_law_thing"]) X G a26 KY KZ K1 λ_ _ _ _ _ _ us hl=>match us,hl with|[_,_],_=>rfl
 have pQ:=cY (st:=top 50) (ps:=["_law_row_of","_law_part","_law_rows_here"]) X G a27 K3 K4 K5 λ_ _ _ _ _ _ us hl=>match us,hl with|[_,_,_],_=>rfl
 have pR:=cY (st:=top 51) (ps:=["_law_row_of","_law_part","_law_rows_here"]) X G a28 K6 K7 K8 λ_ _ _ _ _ _ us hl=>match us,hl with|[_,_,_],_=>rfl
 have Aq:=cY (st:=top 52) (ps:=["_law_script"]) X G a29 K9 K_ La λ_ _ _ _ _ _ us hl=>match us,hl with|[_],_=>rfl
 have tR:=uq (st:=(bw 28 0)) (ps:=["self","at","deep","knot"]) Mi Mj Ml λ_ _ _ _ _ _ us hl=>match us,hl with|[_,_,_,_],_=>rfl
 have nU:=uq (st:=(bw 28 1)) (ps:=["self","kind"]) Mp Mq Bb λ_ _ _ _ _ _ us hl=>match us,hl with|[_,_],_=>rfl
 have tW:=uq (st:=(bw 28 2)) (ps:=["self","kind","source"]) Mr Ms Bc λ_ _ _ _ _ _ us hl=>match us,hl with|[_,_,_],_=>rfl
 have nY:=uq (st:=(bw 28 3)) (ps:=["self","kind","source","seen"]) Mt Mv Bd λ_ _ _ _ _ _ us hl=>match us,hl with|[_,_,_,_],_=>rfl
 have tX:=uq (st:=(bw 28 4)) (ps:=["self","rows"]) Mw Mx Bf λ_ _ _ _ _ _ us hl=>match us,hl with|[_,_],_=>rfl
 have lA:=uq (st:=(bw 5 0)) (ps:=["self","way"]) Mz MF MJ λ_ _ _ _ _ _ us hl=>match us,hl with|[_,_],_=>rfl
 have e:=hfa.symm.trans Aq.m
 cases e
 refine⟨W.fnOf "law" "law" (bO (top 52)) (bG (top 52)) (aM (top 52)) .none Y4 Y5 Y6 Yo JV Y7,λs v=>.of_eq rfl,λbase X1 _ vC=>?_⟩
 have amB:=W.codeHd_of_K X1 Od
 subst Oc
 have UF:nR K mg iz uy uz uD uE uF:=⟨⟨M_,Nb,Nf,Ng⟩,Nh,Ni,Nj,⟨Nk,at0,MK,Np⟩,W.mg_of X G Mg,⟨at1,MN,Bb⟩,⟨at2,M4,Bc⟩,⟨M6,M5,Bd⟩,⟨M8,M7,Bf⟩⟩
 have XC:tU K mg base dO rM:=⟨ahQ X1 Nq M9,Nr,W.mg_of X G Mh,⟨Nt,Nu,Bg,Nv⟩,⟨Ny,Nz,NK,Bg,NP,cp_is⟩,NQ,cp_is,NT,NZ⟩
 have XV:Xa K mg uw dO Lz LQ L_:=⟨W.mg_of X G Ly,N5,N6,N7,N8,N_,Oa,Ob,W.mg_of X G LK,W.mg_of X G LR,W.mg_of X G Ma,W.mg_none_of X G Mf⟩
 have Nx:=R8 (P:=l.prog) (w:=w) (base:=base) T bB
 have N:=ado Nx
 have Nm:=adw T oX bB N
 have Pl:=adp T oW bB N
 have V_:=S5 (P:=l.prog) (w:=w) (base:=base) T cR bB j7 j8 60
 have KN:=TX (P:=l.prog) (w:=w) (base:=base) T h_ 124
 have TN:=adX T pA oX Nm bB N
 have TR:=ad0 60 (by decide) T pB cR V_
 have OF:=ad8 T kh bB N
 have RF:=aen T pK bB N
 have FT:=aex (P:=l.prog) (w:=w) (base:=base) T pL
 have LM:=aeA T pQ pL FT
 have DU:=aeM T pR pQ LM
 have J:=aeW (P:=l.prog) (w:=w) (base:=base) T pU
 have MP:=aeX (P:=l.prog) (w:=w) (base:=base) T iK
 have RC:=aeY T pW pU J iK MP
 have RM:=ae1 T pY pW RC kJ (ae0 T kJ)
 have ML:=ae4 T iK pY RM
 have Zx:=agl (P:=l.prog) (w:=w) T XC lA
 have AF:=agp T XC qj iK ML lA Zx
 have SF:=afX (P:=l.prog) (w:=w) T qd rfl amB vC
 have RO:=af4 T qe qd SF kO (afZ T kO) kW (af0 T kW)
 have AS:=af_ (P:=l.prog) (w:=w) (base:=base) T qg
 have INI:=aga (P:=l.prog) (w:=w) (base:=base) T UF tR
 have BE:=agb T UF nU qg AS qe RO
 have SE:=agj 124 T UF tW h_ KN
 have AR:=agm T XC UF tX lA Zx
 have PU:=agq T UF nY qj AF nU BE tX AR
 have LP:=agZ T UF XC lB nY PU
 have LC:=ag0 T UF XC XV qp nY PU
 have WY:=agY (P:=l.prog) (w:=w) (base:=base) T qm
 have AL:=ag4 (P:=l.prog) (w:=w) (base:=base) T fV (ag3 T fV (ag2 T fV))
 exact ahe T UF Aq pA TN oW Pl cR V_ pB TR bB N kh OF pK RF pR DU lB LP qp LC qm WY fV AL tR INI nU BE tW SE
section
open PySem
noncomputable def bM (x q:Str) (s:Stmt) (m:Value) (c:Nat):Obj:=.mk (.type "function") none (.func (.mk x q (bO s) (.stmts (bG s)) (aM s) 3 [] .none .none .none m none (.ref c) .none 0)) #[]
noncomputable def bR (x q:Str) (a l n k r f b e:Nat):Obj:=.mk (.type "code") none (.fields #[.str x a,.str q (a+1),.str (.ofString "/claim/cut.py") (a+2),.int l 0,.int n 0,.int 0 0,.int 0 0,.int k 0,.ref r,.bool true,.int f 0,.ref (r+1),.none,.ref (r+2),.ref (r+3),.ref (r+4),.int b 0,.int l 0,.str (.ofString "/claim/cut.py") e]) #[]
noncomputable def aK (P:Params) (x:Str) (a:Nat) (v:Value):DictEntry:=.mk (PyData.keyHash P x) (.str x a) v
noncomputable def ob2 (P:Params):Obj:=.mk .none none (.dict #[]) #[]
noncomputable def ob3 (P:Params):Obj:=.mk (.type "dict") none (.dict #[aK P "__name__" 165 (.str (.ofString "law_putback_k58_unroll_refused") 621),aK P "__doc__" 166 .none,aK P "__package__" 167 .none,aK P "__loader__" 168 (.builtin "__main__.__loader__#opaque"),aK P "__spec__" 169 .none,aK P "__annotations__" 170 (.ref 6),aK P "__builtins__" 171 (.ref 4),aK P "__file__" 173 (.str (.ofString "/claim/cut.py") 172),aK P "__cached__" 174 .none,aK P "_wall" 193 (.ref 21),aK P "ViewError" 213 (.ref 31),aK P "NoKind" 229 (.ref 44),aK P "NoView" 254 (.ref 63),aK P "CantPut" 279 (.ref 82),aK P "NoFit" 304 (.ref 101),aK P "NoPaper" 329 (.ref 120),aK P "is_plain" 338 (.ref 129),aK P "kind_at" 347 (.ref 136),aK P "sorted_fields" 357 (.ref 143),aK P "rows_of" 367 (.ref 150),aK P "misfit" 378 (.ref 157),aK P "record_misfit" 389 (.ref 164),aK P "has_just" 395 (.ref 169),aK P "rows_misfit" 407 (.ref 176),aK P "is_pair" 414 (.ref 183),aK P "tree_misfit" 425 (.ref 190),aK P "either_misfit" 435 (.ref 197),aK P "rank" 445 (.ref 204),aK P "ask_fit" 456 (.ref 211),aK P "ask_stands" 463 (.ref 218),aK P "View" 525 (.ref 263),aK P "knots_of" 537 (.ref 274),aK P "Unroll" 620 (.ref 326),aK P "_law_next" 632 (.ref 335),aK P "_law_number" 642 (.ref 342),aK P "_law_word" 656 (.ref 349),aK P "_law_names" 673 (.ref 356),aK P "_law_plain" 681 (.ref 363),aK P "_law_fields" 687 (.ref 368),aK P "_law_rows_kind" 705 (.ref 375),aK P "_law_kind" 715 (.ref 382),aK P "_law_rank" 723 (.ref 389),aK P "_law_rows" 738 (.ref 396),aK P "_law_value" 744 (.ref 401),aK P "_law_alike" 750 (.ref 406),aK P "_law_way" 760 (.ref 413),aK P "_law_turned_names" 772 (.ref 420),aK P "_law_put" 784 (.ref 427),aK P "_law_class" 796 (.ref 434),aK P "_law_tree_rows" 811 (.ref 441),aK P "_law_numbers_off" 826 (.ref 448),aK P "_law_rows_off" 841 (.ref 455),aK P "_law_fits" 849 (.ref 462),aK P "_law_misfit" 862 (.ref 469),aK P "_law_due" 873 (.ref 476),aK P "law" 879 (.ref 481)] 56) #[]
noncomputable def amE (P:Params):Obj:=bR "_wall" "_wall" 187 1 1 3 15 181 191 192
noncomputable def amF (P:Params):Obj:=bM "_wall" "_wall" (top 0) (.str (.ofString "__main__") 164) 20
noncomputable def amG (P:Params):Obj:=.mk (.type "dict") none (.dict #[aK P "__module__" 203 (.str (.ofString "putback.errors") 194),aK P "__firstlineno__" 207 (.int 5 206),aK P "__static_attributes__" 208 (.ref 29),aK P "__weakref__" 210 (.ref 32),aK P "__doc__" 211 .none] 3) #[]
noncomputable def amH (P:Params):Obj:=.mk (.type "type") none (.cls (.mk (.ofString "ViewError") [.type "ValueError"] [.ref 31,.type "ValueError",.type "Exception",.type "BaseException",.type "object"] 30 (.ofString "ViewError") true [] [.ref 44,.ref 63,.ref 82,.ref 101,.ref 120] false none false)) #[some (.ref 22),none,some (.str (.ofString "ViewError") 196),some (.str (.ofString "ViewError") 204),some (.builtin "ValueError.__new__"),some (.bool true)]
noncomputable def amI (P:Params):Obj:=.mk (.type "getset_descriptor") none (.fields #[.str (.ofString "__weakref__") 209,.ref 31,.builtin "ExceptionGroup.__weakref__",.none]) #[]
noncomputable def amJ (P:Params):Obj:=.mk (.type "dict") none (.dict #[aK P "__module__" 221 (.str (.ofString "putback.errors") 194),aK P "__firstlineno__" 225 (.int 7 224),aK P "__static_attributes__" 226 (.ref 42),aK P "__doc__" 227 .none] 2) #[]
noncomputable def amK (P:Params):Obj:=.mk (.type "type") none (.cls (.mk (.ofString "NoKind") [.ref 31] [.ref 44,.ref 31,.type "ValueError",.type "Exception",.type "BaseException",.type "object"] 43 (.ofString "NoKind") true [] [] false none false)) #[some (.ref 35),none,some (.str (.ofString "NoKind") 214),some (.str (.ofString "NoKind") 222),some (.builtin "ValueError.__new__"),some (.bool true)]
noncomputable def amL (P:Params):Obj:=bR "__init__" "NoView.__init__" 242 11 2 3 54 181 247 248
noncomputable def amM (P:Params):Obj:=bM "__init__" "NoView.__init__" (bw 4 0) (.str (.ofString "putback.errors") 194) 59
noncomputable def amN (P:Params):Obj:=.mk (.type "dict") none (.dict #[aK P "__module__" 237 (.str (.ofString "putback.errors") 194),aK P "__firstlineno__" 241 (.int 9 240),aK P "__init__" 249 (.ref 60),aK P "__static_attributes__" 251 (.ref 61),aK P "__doc__" 252 .none] 2) #[]
noncomputable def amO (P:Params):Obj:=.mk (.type "type") none (.cls (.mk (.ofString "NoView") [.ref 31] [.ref 63,.ref 31,.type "ValueError",.type "Exception",.type "BaseException",.type "object"] 62 (.ofString "NoView") true [] [] false none false)) #[some (.ref 47),none,some (.str (.ofString "NoView") 230),some (.str (.ofString "NoView") 238),some (.builtin "ValueError.__new__"),some (.bool true)]
noncomputable def amP (P:Params):Obj:=bR "__init__" "CantPut.__init__" 267 15 2 3 73 181 272 273
noncomputable def amQ (P:Params):Obj:=bM "__init__" "CantPut.__init__" (bw 5 0) (.str (.ofString "putback.errors") 194) 78
noncomputable def amR (P:Params):Obj:=.mk (.type "dict") none (.dict #[aK P "__module__" 262 (.str (.ofString "putback.errors") 194),aK P "__firstlineno__" 266 (.int 13 265),aK P "__init__" 274 (.ref 79),aK P "__static_attributes__" 276 (.ref 80),aK P "__doc__" 277 .none] 2) #[]
noncomputable def amS (P:Params):Obj:=.mk (.type "type") none (.cls (.mk (.ofString "CantPut") [.ref 31] [.ref 82,.ref 31,.type "ValueError",.type "Exception",.type "BaseException",.type "object"] 81 (.ofString "CantPut") true [] [] false none false)) #[some (.ref 66),none,some (.str (.ofString "CantPut") 255),some (.str (.ofString "CantPut") 263),some (.builtin "ValueError.__new__"),some (.bool true)]
noncomputable def amT (P:Params):Obj:=bR "__init__" "NoFit.__init__" 292 19 2 3 92 181 297 298
noncomputable def amU (P:Params):Obj:=bM "__init__" "NoFit.__init__" (bw 6 0) (.str (.ofString "putback.errors") 194) 97
noncomputable def amV (P:Params):Obj:=.mk (.type "dict") none (.dict #[aK P "__module__" 287 (.str (.ofString "putback.errors") 194),aK P "__firstlineno__" 291 (.int 17 290),aK P "__init__" 299 (.ref 98),aK P "__static_attributes__" 301 (.ref 99),aK P "__doc__" 302 .none] 2) #[]
noncomputable def amW (P:Params):Obj:=.mk (.type "type") none (.cls (.mk (.ofString "NoFit") [.ref 31] [.ref 101,.ref 31,.type "ValueError",.type "Exception",.type "BaseException",.type "object"] 100 (.ofString "NoFit") true [] [] false none false)) #[some (.ref 85),none,some (.str (.ofString "NoFit") 280),some (.str (.ofString "NoFit") 288),some (.builtin "ValueError.__new__"),some (.bool true)]
noncomputable def amX (P:Params):Obj:=bR "__init__" "NoPaper.__init__" 317 23 2 3 111 181 322 323
noncomputable def amY (P:Params):Obj:=bM "__init__" "NoPaper.__init__" (bw 7 0) (.str (.ofString "putback.errors") 194) 116
noncomputable def amZ (P:Params):Obj:=.mk (.type "dict") none (.dict #[aK P "__module__" 312 (.str (.ofString "putback.errors") 194),aK P "__firstlineno__" 316 (.int 21 315),aK P "__init__" 324 (.ref 117),aK P "__static_attributes__" 326 (.ref 118),aK P "__doc__" 327 .none] 2) #[]
noncomputable def am6 (P:Params):Obj:=.mk (.type "type") none (.cls (.mk (.ofString "NoPaper") [.ref 31] [.ref 120,.ref 31,.type "ValueError",.type "Exception",.type "BaseException",.type "object"] 119 (.ofString "NoPaper") true [] [] false none false)) #[some (.ref 104),none,some (.str (.ofString "NoPaper") 305),some (.str (.ofString "NoPaper") 313),some (.builtin "ValueError.__new__"),some (.bool true)]
noncomputable def am7 (P:Params):Obj:=bR "is_plain" "is_plain" 332 26 1 3 123 181 336 337
noncomputable def am8 (P:Params):Obj:=bM "is_plain" "is_plain" (top 9) (.str (.ofString "putback.kinds") 330) 128
noncomputable def am9 (P:Params):Obj:=bR "kind_at" "kind_at" 339 28 2 3 130 181 345 346
noncomputable def am_ (P:Params):Obj:=bM "kind_at" "kind_at" (top 10) (.str (.ofString "putback.kinds") 330) 135
noncomputable def ana (P:Params):Obj:=bR "sorted_fields" "sorted_fields" 348 33 1 3 137 181 355 356
noncomputable def anb (P:Params):Obj:=bM "sorted_fields" "sorted_fields" (top 11) (.str (.ofString "putback.kinds") 330) 142
noncomputable def anc (P:Params):Obj:=bR "rows_of" "rows_of" 358 40 3 3 144 181 365 366
noncomputable def ane (P:Params):Obj:=bM "rows_of" "rows_of" (top 12) (.str (.ofString "putback.kinds") 330) 149
noncomputable def anf (P:Params):Obj:=bR "misfit" "misfit" 370 50 2 3 151 181 376 377
noncomputable def ang (P:Params):Obj:=bM "misfit" "misfit" (top 14) (.str (.ofString "putback.values") 368) 156
noncomputable def anh (P:Params):Obj:=bR "record_misfit" "record_misfit" 379 63 2 3 158 181 387 388
noncomputable def ani (P:Params):Obj:=bM "record_misfit" "record_misfit" (top 15) (.str (.ofString "putback.values") 368) 163
noncomputable def anj (P:Params):Obj:=.mk (.type "code") none (.fields #[.str (.ofString "has_just") 390,.str (.ofString "has_just") 391,.str (.ofString "/claim/cut.py") 392,.int 71 0,.int 2 0,.int 0 0,.int 0 0,.int 3 0,.ref 165,.bool true,.int 181 0,.ref 166,.none,.none,.none,.ref 167,.int 393 0,.int 71 0,.str (.ofString "/claim/cut.py") 394]) #[]
noncomputable def ank (P:Params):Obj:=bM "has_just" "has_just" (top 16) (.str (.ofString "putback.values") 368) 168
noncomputable def anl (P:Params):Obj:=bR "rows_misfit" "rows_misfit" 396 73 2 3 170 181 405 406
noncomputable def anm (P:Params):Obj:=bM "rows_misfit" "rows_misfit" (top 17) (.str (.ofString "putback.values") 368) 175
noncomputable def ano (P:Params):Obj:=bR "is_pair" "is_pair" 408 87 1 3 177 181 412 413
noncomputable def anp (P:Params):Obj:=bM "is_pair" "is_pair" (top 18) (.str (.ofString "putback.values") 368) 182
noncomputable def anq (P:Params):Obj:=bR "tree_misfit" "tree_misfit" 415 89 2 3 184 181 423 424
noncomputable def anr (P:Params):Obj:=bM "tree_misfit" "tree_misfit" (top 19) (.str (.ofString "putback.values") 368) 189
noncomputable def ant (P:Params):Obj:=bR "either_misfit" "either_misfit" 426 100 2 3 191 181 433 434
noncomputable def anu (P:Params):Obj:=bM "either_misfit" "either_misfit" (top 20) (.str (.ofString "putback.values") 368) 196
noncomputable def anv (P:Params):Obj:=bR "rank" "rank" 436 110 2 3 198 181 443 444
noncomputable def anw (P:Params):Obj:=bM "rank" "rank" (top 21) (.str (.ofString "putback.values") 368) 203
noncomputable def anx (P:Params):Obj:=bR "ask_fit" "ask_fit" 448 117 2 3 205 181 454 455
noncomputable def anz (P:Params):Obj:=bM "ask_fit" "ask_fit" (top 23) (.str (.ofString "putback.views") 446) 210
noncomputable def anA (P:Params):Obj:=bR "ask_stands" "ask_stands" 457 121 1 3 212 181 461 462
noncomputable def anB (P:Params):Obj:=bM "ask_stands" "ask_stands" (top 24) (.str (.ofString "putback.views") 446) 217
noncomputable def anC (P:Params):Obj:=bR "behind" "View.behind" 476 126 2 3 226 181 481 482
noncomputable def anD (P:Params):Obj:=bM "behind" "View.behind" (bw 25 0) (.str (.ofString "putback.views") 446) 231
noncomputable def anE (P:Params):Obj:=bR "see" "View.see" 484 129 3 3 233 181 490 491
noncomputable def anF (P:Params):Obj:=bM "see" "View.see" (bw 25 1) (.str (.ofString "putback.views") 446) 238
noncomputable def anG (P:Params):Obj:=bR "put" "View.put" 493 132 4 3 240 181 500 501
noncomputable def anH (P:Params):Obj:=bM "put" "View.put" (bw 25 2) (.str (.ofString "putback.views") 446) 245
noncomputable def anI (P:Params):Obj:=bR "grade" "View.grade" 503 136 1 3 247 181 507 508
noncomputable def anJ (P:Params):Obj:=bM "grade" "View.grade" (bw 25 3) (.str (.ofString "putback.views") 446) 252
noncomputable def anK (P:Params):Obj:=bR "keeps" "View.keeps" 510 139 2 3 254 181 515 516
noncomputable def anL (P:Params):Obj:=bM "keeps" "View.keeps" (bw 25 4) (.str (.ofString "putback.views") 446) 259
noncomputable def anM (P:Params):Obj:=.mk (.type "dict") none (.dict #[aK P "__module__" 471 (.str (.ofString "putback.views") 446),aK P "__firstlineno__" 475 (.int 124 474),aK P "behind" 483 (.ref 232),aK P "see" 492 (.ref 239),aK P "put" 502 (.ref 246),aK P "grade" 509 (.ref 253),aK P "keeps" 517 (.ref 260),aK P "__static_attributes__" 518 (.ref 261),aK P "__dict__" 520 (.ref 264),aK P "__weakref__" 522 (.ref 265),aK P "__doc__" 523 .none] 4) #[]
noncomputable def anN (P:Params):Obj:=.mk (.type "type") none (.cls (.mk (.ofString "View") [.type "object"] [.ref 263,.type "object"] 262 (.ofString "View") true [] [.ref 326] false none false)) #[none,none,some (.str (.ofString "View") 464),some (.str (.ofString "View") 472),some (.builtin "object.__new__"),some (.bool true)]
noncomputable def anO (P:Params):Obj:=.mk (.type "getset_descriptor") none (.fields #[.str (.ofString "__dict__") 519,.ref 263,.builtin "function.__dict__",.builtin "function.__dict__#set"]) #[]
noncomputable def anP (P:Params):Obj:=.mk (.type "getset_descriptor") none (.fields #[.str (.ofString "__weakref__") 521,.ref 263,.builtin "ExceptionGroup.__weakref__",.none]) #[]
noncomputable def anQ (P:Params):Obj:=bR "knots_of" "knots_of" 528 142 2 3 268 181 535 536
noncomputable def anR (P:Params):Obj:=bM "knots_of" "knots_of" (top 27) (.str (.ofString "putback.trees") 526) 273
noncomputable def anS (P:Params):Obj:=bR "__init__" "Unroll.__init__" 550 149 4 3 282 181 557 558
noncomputable def anT (P:Params):Obj:=bM "__init__" "Unroll.__init__" (bw 28 0) (.str (.ofString "putback.trees") 526) 287
noncomputable def anU (P:Params):Obj:=bR "behind" "Unroll.behind" 560 154 2 3 289 181 565 566
noncomputable def anV (P:Params):Obj:=bM "behind" "Unroll.behind" (bw 28 1) (.str (.ofString "putback.trees") 526) 294
noncomputable def anW (P:Params):Obj:=bR "see" "Unroll.see" 568 158 3 3 296 181 577 578
noncomputable def anY (P:Params):Obj:=bM "see" "Unroll.see" (bw 28 2) (.str (.ofString "putback.trees") 526) 301
noncomputable def anZ (P:Params):Obj:=bR "put" "Unroll.put" 580 164 4 3 303 181 591 592
noncomputable def an_ (P:Params):Obj:=bM "put" "Unroll.put" (bw 28 3) (.str (.ofString "putback.trees") 526) 308
noncomputable def aoa (P:Params):Obj:=bR "ask_rows" "Unroll.ask_rows" 594 175 2 3 310 181 603 604
noncomputable def aob (P:Params):Obj:=bM "ask_rows" "Unroll.ask_rows" (bw 28 4) (.str (.ofString "putback.trees") 526) 315
noncomputable def aoc (P:Params):Obj:=bR "keeps" "Unroll.keeps" 606 187 2 3 317 181 611 612
noncomputable def aod (P:Params):Obj:=bM "keeps" "Unroll.keeps" (bw 28 5) (.str (.ofString "putback.trees") 526) 322
noncomputable def aoe (P:Params):Obj:=.mk (.type "dict") none (.dict #[aK P "__module__" 545 (.str (.ofString "putback.trees") 526),aK P "__firstlineno__" 549 (.int 147 548),aK P "__init__" 559 (.ref 288),aK P "behind" 567 (.ref 295),aK P "see" 579 (.ref 302),aK P "put" 593 (.ref 309),aK P "ask_rows" 605 (.ref 316),aK P "keeps" 613 (.ref 323),aK P "__static_attributes__" 617 (.ref 324),aK P "__doc__" 618 .none] 2) #[]
noncomputable def aof (P:Params):Obj:=.mk (.type "type") none (.cls (.mk (.ofString "Unroll") [.ref 263] [.ref 326,.ref 263,.type "object"] 325 (.ofString "Unroll") true [] [] false none false)) #[some (.ref 275),none,some (.str (.ofString "Unroll") 538),some (.str (.ofString "Unroll") 546),some (.builtin "object.__new__"),some (.bool true)]
noncomputable def aog (P:Params):Obj:=bR "_law_next" "_law_next" 623 190 2 3 329 181 630 631
noncomputable def aoh (P:Params):Obj:=bM "_law_next" "_law_next" (top 30) (.str (.ofString "law_putback_k58_unroll_refused") 621) 334
noncomputable def aoi (P:Params):Obj:=bR "_law_number" "_law_number" 633 197 2 3 336 181 640 641
noncomputable def aoj (P:Params):Obj:=bM "_law_number" "_law_number" (top 31) (.str (.ofString "law_putback_k58_unroll_refused") 621) 341
noncomputable def aok (P:Params):Obj:=bR "_law_word" "_law_word" 643 205 2 3 343 181 654 655
noncomputable def aol (P:Params):Obj:=bM "_law_word" "_law_word" (top 32) (.str (.ofString "law_putback_k58_unroll_refused") 621) 348
noncomputable def aom (P:Params):Obj:=bR "_law_names" "_law_names" 657 217 3 3 350 181 671 672
noncomputable def aon (P:Params):Obj:=bM "_law_names" "_law_names" (top 33) (.str (.ofString "law_putback_k58_unroll_refused") 621) 355
noncomputable def aoo (P:Params):Obj:=bR "_law_plain" "_law_plain" 674 231 2 3 357 181 679 680
noncomputable def aop (P:Params):Obj:=bM "_law_plain" "_law_plain" (top 34) (.str (.ofString "law_putback_k58_unroll_refused") 621) 362
noncomputable def aoq (P:Params):Obj:=bR "_law_rank" "_law_rank" 716 264 2 3 383 181 721 722
noncomputable def aor (P:Params):Obj:=bM "_law_rank" "_law_rank" (top 38) (.str (.ofString "law_putback_k58_unroll_refused") 621) 388
noncomputable def aos (P:Params):Obj:=bR "_law_rows" "_law_rows" 724 268 4 3 390 181 736 737
noncomputable def aot (P:Params):Obj:=bM "_law_rows" "_law_rows" (top 39) (.str (.ofString "law_putback_k58_unroll_refused") 621) 395
noncomputable def aou (P:Params):Obj:=.mk (.type "code") none (.fields #[.str (.ofString "_law_value") 739,.str (.ofString "_law_value") 740,.str (.ofString "/claim/cut.py") 741,.int 277 0,.int 4 0,.int 0 0,.int 0 0,.int 3 0,.ref 397,.bool true,.int 181 0,.ref 398,.none,.none,.none,.ref 399,.int 742 0,.int 277 0,.str (.ofString "/claim/cut.py") 743]) #[]
noncomputable def aov (P:Params):Obj:=bM "_law_value" "_law_value" (top 40) (.str (.ofString "law_putback_k58_unroll_refused") 621) 400
noncomputable def aow (P:Params):Obj:=.mk (.type "code") none (.fields #[.str (.ofString "_law_alike") 745,.str (.ofString "_law_alike") 746,.str (.ofString "/claim/cut.py") 747,.int 295 0,.int 3 0,.int 0 0,.int 0 0,.int 3 0,.ref 402,.bool true,.int 181 0,.ref 403,.none,.none,.none,.ref 404,.int 748 0,.int 295 0,.str (.ofString "/claim/cut.py") 749]) #[]
noncomputable def aox (P:Params):Obj:=bM "_law_alike" "_law_alike" (top 41) (.str (.ofString "law_putback_k58_unroll_refused") 621) 405
noncomputable def aoy (P:Params):Obj:=bR "_law_way" "_law_way" 751 323 2 3 407 181 758 759
noncomputable def aoz (P:Params):Obj:=bM "_law_way" "_law_way" (top 42) (.str (.ofString "law_putback_k58_unroll_refused") 621) 412
noncomputable def aoA (P:Params):Obj:=bR "_law_turned_names" "_law_turned_names" 761 332 2 3 414 181 770 771
noncomputable def aoB (P:Params):Obj:=bM "_law_turned_names" "_law_turned_names" (top 43) (.str (.ofString "law_putback_k58_unroll_refused") 621) 419
noncomputable def aoC (P:Params):Obj:=bR "_law_put" "_law_put" 773 338 4 3 421 181 782 783
noncomputable def aoD (P:Params):Obj:=bM "_law_put" "_law_put" (top 44) (.str (.ofString "law_putback_k58_unroll_refused") 621) 426
noncomputable def aoE (P:Params):Obj:=bR "_law_class" "_law_class" 785 344 4 3 428 181 794 795
noncomputable def aoF (P:Params):Obj:=bM "_law_class" "_law_class" (top 45) (.str (.ofString "law_putback_k58_unroll_refused") 621) 433
noncomputable def aoG (P:Params):Obj:=bR "_law_tree_rows" "_law_tree_rows" 797 351 4 3 435 181 809 810
noncomputable def aoH (P:Params):Obj:=bM "_law_tree_rows" "_law_tree_rows" (top 46) (.str (.ofString "law_putback_k58_unroll_refused") 621) 440
noncomputable def aoI (P:Params):Obj:=bR "_law_numbers_off" "_law_numbers_off" 812 360 5 3 442 181 824 825
noncomputable def aoJ (P:Params):Obj:=bM "_law_numbers_off" "_law_numbers_off" (top 47) (.str (.ofString "law_putback_k58_unroll_refused") 621) 447
noncomputable def aoK (P:Params):Obj:=bR "_law_rows_off" "_law_rows_off" 827 377 5 3 449 181 839 840
noncomputable def aoL (P:Params):Obj:=bM "_law_rows_off" "_law_rows_off" (top 48) (.str (.ofString "law_putback_k58_unroll_refused") 621) 454
noncomputable def aoM (P:Params):Obj:=bR "_law_fits" "_law_fits" 842 390 2 3 456 181 847 848
noncomputable def aoN (P:Params):Obj:=bM "_law_fits" "_law_fits" (top 49) (.str (.ofString "law_putback_k58_unroll_refused") 621) 461
noncomputable def aoO (P:Params):Obj:=bR "_law_misfit" "_law_misfit" 850 394 3 3 463 181 860 861
noncomputable def aoP (P:Params):Obj:=bM "_law_misfit" "_law_misfit" (top 50) (.str (.ofString "law_putback_k58_unroll_refused") 621) 468
noncomputable def aoQ (P:Params):Obj:=bR "_law_due" "_law_due" 863 405 3 3 470 181 871 872
noncomputable def aoR (P:Params):Obj:=bM "_law_due" "_law_due" (top 51) (.str (.ofString "law_putback_k58_unroll_refused") 621) 475
noncomputable def aoS (P:Params):Obj:=.mk (.type "code") none (.fields #[.str (.ofString "law") 874,.str (.ofString "law") 875,.str (.ofString "/claim/cut.py") 876,.int 419 0,.int 1 0,.int 0 0,.int 0 0,.int 3 0,.ref 477,.bool true,.int 181 0,.ref 478,.none,.none,.none,.ref 479,.int 877 0,.int 419 0,.str (.ofString "/claim/cut.py") 878]) #[]
noncomputable def aoT (P:Params):Obj:=bM "law" "law" (top 52) (.str (.ofString "law_putback_k58_unroll_refused") 621) 480
end
noncomputable def KK:PySem.Params->W.Frag:=λP=>(nat_lit 2,ob2 P)::(nat_lit 3,ob3 P)::(nat_lit 20,amE P)::(nat_lit 21,amF P)::(nat_lit 30,amG P)::(nat_lit 31,amH P)::(nat_lit 32,amI P)::(nat_lit 43,amJ P)::(nat_lit 44,amK P)::(nat_lit 59,amL P)::(nat_lit 60,amM P)::(nat_lit 62,amN P)::(nat_lit 63,amO P)::(nat_lit 78,amP P)::(nat_lit 79,amQ P)::(nat_lit 81,amR P)::(nat_lit 82,amS P)::(nat_lit 97,amT P)::(nat_lit 98,amU P)::(nat_lit 100,amV P)::(nat_lit 101,amW P)::(nat_lit 116,amX P)::(nat_lit 117,amY P)::(nat_lit 119,amZ P)::(nat_lit 120,am6 P)::(nat_lit 128,am7 P)::(nat_lit 129,am8 P)::(nat_lit 135,am9 P)::(nat_lit 136,am_ P)::(nat_lit 142,ana P)::(nat_lit 143,anb P)::(nat_lit 149,anc P)::(nat_lit 150,ane P)::(nat_lit 156,anf P)::(nat_lit 157,ang P)::(nat_lit 163,anh P)::(nat_lit 164,ani P)::(nat_lit 168,anj P)::(nat_lit 169,ank P)::(nat_lit 175,anl P)::(nat_lit 176,anm P)::(nat_lit 182,ano P)::(nat_lit 183,anp P)::(nat_lit 189,anq P)::(nat_lit 190,anr P)::(nat_lit 196,ant P)::(nat_lit 197,anu P)::(nat_lit 203,anv P)::(nat_lit 204,anw P)::(nat_lit 210,anx P)::(nat_lit 211,anz P)::(nat_lit 217,anA P)::(nat_lit 218,anB P)::(nat_lit 231,anC P)::(nat_lit 232,anD P)::(nat_lit 238,anE P)::(nat_lit 239,anF P)::(nat_lit 245,anG P)::(nat_lit 246,anH P)::(nat_lit 252,anI P)::(nat_lit 253,anJ P)::(nat_lit 259,anK P)::(nat_lit 260,anL P)::(nat_lit 262,anM P)::(nat_lit 263,anN P)::(nat_lit 264,anO P)::(nat_lit 265,anP P)::(nat_lit 273,anQ P)::(nat_lit 274,anR P)::(nat_lit 287,anS P)::(nat_lit 288,anT P)::(nat_lit 294,anU P)::(nat_lit 295,anV P)::(nat_lit 301,anW P)::(nat_lit 302,anY P)::(nat_lit 308,anZ P)::(nat_lit 309,an_ P)::(nat_lit 315,aoa P)::(nat_lit 316,aob P)::(nat_lit 322,aoc P)::(nat_lit 323,aod P)::(nat_lit 325,aoe P)::(nat_lit 326,aof P)::(nat_lit 334,aog P)::(nat_lit 335,aoh P)::(nat_lit 341,aoi P)::(nat_lit 342,aoj P)::(nat_lit 348,aok P)::(nat_lit 349,aol P)::(nat_lit 355,aom P)::(nat_lit 356,aon P)::(nat_lit 362,aoo P)::(nat_lit 363,aop P)::(nat_lit 388,aoq P)::(nat_lit 389,aor P)::(nat_lit 395,aos P)::(nat_lit 396,aot P)::(nat_lit 400,aou P)::(nat_lit 401,aov P)::(nat_lit 405,aow P)::(nat_lit 406,aox P)::(nat_lit 412,aoy P)::(nat_lit 413,aoz P)::(nat_lit 419,aoA P)::(nat_lit 420,aoB P)::(nat_lit 426,aoC P)::(nat_lit 427,aoD P)::(nat_lit 433,aoE P)::(nat_lit 434,aoF P)::(nat_lit 440,aoG P)::(nat_lit 441,aoH P)::(nat_lit 447,aoI P)::(nat_lit 448,aoJ P)::(nat_lit 454,aoK P)::(nat_lit 455,aoL P)::(nat_lit 461,aoM P)::(nat_lit 462,aoN P)::(nat_lit 468,aoO P)::(nat_lit 469,aoP P)::(nat_lit 475,aoQ P)::(nat_lit 476,aoR P)::(nat_lit 480,aoS P)::(nat_lit 481,aoT P)::[]
noncomputable def uG:List Nat:=nat_lit 2::nat_lit 3::nat_lit 20::nat_lit 21::nat_lit 30::nat_lit 31::nat_lit 32::nat_lit 43::nat_lit 44::nat_lit 59::nat_lit 60::nat_lit 62::nat_lit 63::nat_lit 78::nat_lit 79::nat_lit 81::nat_lit 82::nat_lit 97::nat_lit 98::nat_lit 100::nat_lit 101::nat_lit 116::nat_lit 117::nat_lit 119::nat_lit 120::nat_lit 128::nat_lit 129::nat_lit 135::nat_lit 136::nat_lit 142::nat_lit 143::nat_lit 149::nat_lit 150::nat_lit 156::nat_lit 157::nat_lit 163::nat_lit 164::nat_lit 168::nat_lit 169::nat_lit 175::nat_lit 176::nat_lit 182::nat_lit 183::nat_lit 189::nat_lit 190::nat_lit 196::nat_lit 197::nat_lit 203::nat_lit 204::nat_lit 210::nat_lit 211::nat_lit 217::nat_lit 218::nat_lit 231::nat_lit 232::nat_lit 238::nat_lit 239::nat_lit 245::nat_lit 246::nat_lit 252::nat_lit 253::nat_lit 259::nat_lit 260::nat_lit 262::nat_lit 263::nat_lit 264::nat_lit 265::nat_lit 273::nat_lit 274::nat_lit 287::nat_lit 288::nat_lit 294::nat_lit 295::nat_lit 301::nat_lit 302::nat_lit 308::nat_lit 309::nat_lit 315::nat_lit 316::nat_lit 322::nat_lit 323::nat_lit 325::nat_lit 326::nat_lit 334::nat_lit 335::nat_lit 341::nat_lit 342::nat_lit 348::nat_lit 349::nat_lit 355::nat_lit 356::nat_lit 362::nat_lit 363::nat_lit 388::nat_lit 389::nat_lit 395::nat_lit 396::nat_lit 400::nat_lit 401::nat_lit 405::nat_lit 406::nat_lit 412::nat_lit 413::nat_lit 419::nat_lit 420::nat_lit 426::nat_lit 427::nat_lit 433::nat_lit 434::nat_lit 440::nat_lit 441::nat_lit 447::nat_lit 448::nat_lit 454::nat_lit 455::nat_lit 461::nat_lit 462::nat_lit 468::nat_lit 469::nat_lit 475::nat_lit 476::nat_lit 480::nat_lit 481::[]
noncomputable def qv:PySem.Program:={ PySem.Challenge.pw_putback_k58_unroll_refused with main:={ (PySem.Challenge.pw_putback_k58_unroll_refused).main with body:=top 0::top 2::top 3::top 4::top 5::top 6::top 7::top 9::top 10::top 11::top 12::top 14::top 15::top 16::top 17::top 18::top 19::top 20::top 21::top 23::top 24::top 25::top 27::top 28::top 30::top 31::top 32::top 33::top 34::top 35::top 36::top 37::top 38::top 39::top 40::top 41::top 42::top 43::top 44::top 45::top 46::top 47::top 48::top 49::top 50::top 51::top 52::[] } }
theorem wY (P:PySem.Params):uG=(KK P).map (·.1):=by kernel_rfl
theorem Zy {K:W.Frag}{x:Str}{f c P:Addr}{oc occ:Value}{od odc:Option Addr}{fd:FuncData}{sl slc:Array (Option Value)}{Zz:Array Value}(a:W.nsIn K mainGlobals x=some (some (.ref f)))(l:K.lookup f=some ⟨oc,od,.func fd,sl⟩)(hc:fd.code=.ref c)
 (lc:K.lookup c=some ⟨occ,odc,.fields Zz,slc⟩) (hP:Zz[11]? =some (.ref P)):W.tabIn K x=some (c,P):=by
 unfold W.tabIn
 rw[a]
 dsimp only
 rw[l]
 dsimp only
 rw[hc]
 dsimp only
 rw[lc]
 dsimp only
 rw[hP]
noncomputable def aoW (K:W.Frag) (tabs:List (Addr × Addr)):Sp:=λvs H Q _=>∃(a:Addr) (ns:List Int),vs=[.ref a]/\j6 K H a ns/\ns.length<=63/\(∀q∈tabs,H q.2=some (.dI #[]))/\∀H',Q (.bl true) H'
theorem j6.ofT {K:W.Frag}{H:Hp}{a:Addr}{ns:List Int}{tabs:List Addr}(o:yK tabs H)(h:aq K H a (ns.map V.int)):j6 K H a ns:=by
 rcases h with(h|h)|h
 . rcases o a with z|⟨ob,xs,z⟩|⟨_,z⟩ <;> rw[h] at z <;> cases z
 . exact .inl h
 . exact .inr h
theorem walk {l:W.OpenLaw}{q:Program}{loose:List Str}{XP:(Str->Option Value)->Heap->Prop}{YP:World->Heap->Prop}{d:DefRec}{K:Params->W.Frag}(hn:l.most=some 63)(hdf:d.params.defaults=[])
 (hY:∀(w:World) (h:Heap),YP w h->(K w.params).In h) (vB:∀w:World,W.noTabs (K w.params)=true) (hrec:∃d',(PyProof.Rows.recsOf q).find? (λe=>e.name == ("_law_rows":Str))=some d') (aoX:∃d',(PyProof.Rows.recsOf q).find? (λe=>e.name == ("sorted_fields":Str))=some d')
 (F:∀w:World,∃c Pt c2 P2:Addr,W.tabIn (K w.params) "_law_rows"=some (c,Pt)/\W.tabIn (K w.params) "sorted_fields"=some (c2,P2)/\∀(mg:Str->Option Value) (fa:Addr) (h:Heap),(K w.params).In h->h.Ns mainGlobals mg->mg d.name=some (.ref fa)->
   ∃fd:FuncData,(∀(s:Shared) (u:Value),BindsTo s fd ⟨[u],[]⟩ [("_law_script",u)])/\∀base:Heap,(K w.params).In base->base.Ns mainGlobals mg->BM mg base->aH l.prog w (K w.params) mg base aP 127 fa fd ["_law_script"] (Jb (K w.params) P2)):
 W.WalkO q loose XP YP l.row.toRowW d [] (λf vs=>PySem.call f vs):=
 L2.ac0 (n:=63) (k:=127) (x:="_law_script") (names:=["_law_rows","sorted_fields"]) (sp:=λw tabs=>aoW (K w.params) tabs) hn (by decide) hdf ⟨rfl,by decide,by decide⟩ hY vB (λw=>by
   obtain⟨c,Pt,c2,P2,ht,nM,F⟩:=F w
   refine⟨[(c,Pt),(c2,P2)],λq' hq=>?_,λmg fa h X G hm=>?_⟩
   . rcases List.mem_cons.mp hq with e|e
     . exact⟨"_law_rows",by simp,by rw[e];exact ht⟩
     . exact⟨"sorted_fields",by simp,by rw[List.mem_singleton.mp e];exact nM⟩
   obtain⟨fd,hb,hF⟩:=F mg fa h X G hm
   exact⟨fd,hb,λbase X1 G1 B=>(hF base X1 G1 B).imp λvs H Q E ⟨a,ns,e,hS,hl,hT,q⟩=>⟨a,ns,e,hS,hl,.inl (hT _ (List.mem_cons_of_mem _ (List.mem_singleton.mpr rfl))),q⟩⟩)
   (λy hy=>by
     rcases List.mem_cons.mp hy with e|e
     . rw[e];exact hrec
     . rw[List.mem_singleton.mp e];exact aoX) λw tabs H a ns hl hO hPt hSq=>⟨a,ns,rfl,j6.ofT hO hSq,hl,hPt,λ_=>rfl⟩
end Pb
open PySem PySem.W PyProof.Rows
set_option maxRecDepth 100000 in
set_option maxHeartbeats 0 in
theorem PySem.Challenge.cw_putback_k58_unroll_refused_holds : PySem.Challenge.rw_putback_k58_unroll_refused.Holds := by
 w_on;o_law
 refine holds_open (q:=Pb.qv) (loose:=[]) (Xt:=λs=>xlAt Pb.qv [] s && recOk (RowW.records (PySem.W.OpenRow.toRowW (PySem.W.OpenLaw.row PySem.Challenge.rw_putback_k58_unroll_refused))) s) (XP:=XL Pb.qv []) (Yf:=Hook.obs (PySem.W.kmHook Pb.KK Pb.uG Pb.wY [138,391])) (Ya:=Hook.val (PySem.W.kmHook Pb.KK Pb.uG Pb.wY [138,391])) (YP:=Hook.says (PySem.W.kmHook Pb.KK Pb.uG Pb.wY [138,391])) (N:=7040) ?hl (Hook.of (PySem.W.kmHook Pb.KK Pb.uG Pb.wY [138,391])) (Hook.keeps (PySem.W.kmHook Pb.KK Pb.uG Pb.wY [138,391])) (λs e=>xl_of s (Bool.and_eq_true_iff.mp e).1) XL.keeps (by rfl) (by rfl) (by rfl) (λs e=>recFacts_of (Bool.and_eq_true_iff.mp e).2) (by rfl) (by first|assumption|decide +kernel) (by decide +kernel) ⟨rfl,rfl,rfl,rfl,rfl,by decide +kernel⟩ ?hw ?hc
 case hl=>exact Pb.ahN (by rfl) (by rfl) (λs=>rfl) (by intro w os;kernel_rfl)
 (case hw=>w_witness2)
 k_fill
 refine Pb.walk (l:=PySem.Challenge.rw_putback_k58_unroll_refused) rfl rfl (λw h Y=>PySem.W.km_in_of Y) (λw=>by kernel_rfl) ⟨_,rfl⟩ ⟨_,rfl⟩ ?F
 case F=>
  intro w
  refine' ⟨_,_,_,_,?ht,?nM,?GG⟩
  case ht=>
   refine' Pb.Zy ?ta ?tl ?tc ?Oe ?tP
   (case ta=>k_is);(case tl=>k_is);(case tc=>rfl);(case Oe=>k_is);(case tP=>rfl)
  case nM=>
   refine' Pb.Zy ?ta ?tl ?tc ?Oe ?tP
   (case ta=>k_is);(case tl=>k_is);(case tc=>rfl);(case Oe=>k_is);(case tP=>rfl)
  case GG=>
   intro mg fa h KX G hmg
   refine' Pb.all_mk KX G hmg ?a0 ?l0 ?c0 ?k0 ?a1 ?l1 ?c1 ?k1 ?a2 ?l2 ?c2 ?k2 ?a3 ?l3 ?c3 ?k3 ?a4 ?l4 ?c4 ?k4 ?a5 ?l5 ?c5 ?k5 ?a6 ?l6 ?c6 ?k6 ?a7 ?l7 ?c7 ?k7 ?a8 ?l8 ?c8 ?k8 ?a9 ?l9 ?c9 ?k9 ?a10 ?l10 ?tL ?k10 ?a11 ?JW ?tM ?k11 ?a12 ?yS ?c12 ?k12 ?a13 ?JX ?JZ ?k13 ?a14 ?J0 ?J1 ?k14 ?a15 ?J3 ?J4 ?J5 ?a16 ?J6 ?c16 ?J7 ?a17 ?J8 ?J9 ?J_ ?a18 ?Ka ?Kc ?Ke ?a19 ?Kf ?Kg ?Kh ?a20 ?Kl ?Km ?Ko ?a21 ?Kq ?c21 ?Kr ?a22 ?Ks ?Ku ?Kv ?a23 ?Kw ?Ky ?Kz ?a24 ?KC ?KD ?KH ?a25 ?KJ ?KQ ?KR ?a26 ?KY ?KZ ?K1 ?a27 ?K3 ?K4 ?K5 ?a28 ?K6 ?K7 ?K8 ?a29 ?K9 ?K_ ?La ?Lb ?Ld ?Le ?Lf ?Lg ?Lh ?Li ?Lj ?Lk ?Ln ?Lp ?Lq ?Lr ?Ls ?Lx ?Ly ?LK ?LR ?Ma ?Mf ?Mg ?Y9 ?Y_ ?Mh ?Zc ?Zd ?Zf ?Mi ?Mj ?Ml ?Zh ?Mp ?Mq ?Bb ?Zj ?Mr ?Ms ?Bc ?Zm ?Mt ?Mv ?Bd ?Zo ?Mw ?Mx ?Bf ?Zr ?Mz ?MF ?MJ ?MK ?at0 ?MN ?at1 ?M4 ?at2 ?M5 ?M6 ?M7 ?M8 ?M9 ?Zt ?M_ ?Nb ?Nf ?Ng ?Nh ?Ni ?Nj ?Nk ?Np ?Nq ?Nr ?Nt ?Nu ?Bg ?Nv ?Ny ?Nz ?NK ?NP ?cp_is ?NQ ?NT ?NZ ?N5 ?N6 ?N7 ?N8 ?N_ ?Oa ?Ob ?Oc ?Zv ?Zw ?Od
   (case a0=>k_is);(case l0=>k_is);(case c0=>k_is);(case k0=>k_is)
   (case a1=>k_is);(case l1=>k_is);(case c1=>k_is);(case k1=>k_is)
   (case a2=>k_is);(case l2=>k_is);(case c2=>k_is);(case k2=>k_is)
   (case a3=>k_is);(case l3=>k_is);(case c3=>k_is);(case k3=>k_is)
   (case a4=>k_is);(case l4=>k_is);(case c4=>k_is);(case k4=>k_is)
   (case a5=>k_is);(case l5=>k_is);(case c5=>k_is);(case k5=>k_is)
   (case a6=>k_is);(case l6=>k_is);(case c6=>k_is);(case k6=>k_is)
   (case a7=>k_is);(case l7=>k_is);(case c7=>k_is);(case k7=>k_is)
   (case a8=>k_is);(case l8=>k_is);(case c8=>k_is);(case k8=>k_is)
   (case a9=>k_is);(case l9=>k_is);(case c9=>k_is);(case k9=>k_is)
   (case a10=>k_is);(case l10=>k_is);(case tL=>k_is);(case k10=>k_is)
   (case a11=>k_is);(case JW=>k_is);(case tM=>k_is);(case k11=>k_is)
   (case a12=>k_is);(case yS=>k_is);(case c12=>k_is);(case k12=>k_is)
   (case a13=>k_is);(case JX=>k_is);(case JZ=>k_is);(case k13=>k_is)
   (case a14=>k_is);(case J0=>k_is);(case J1=>k_is);(case k14=>k_is)
   (case a15=>k_is);(case J3=>k_is);(case J4=>k_is);(case J5=>k_is)
   (case a16=>k_is);(case J6=>k_is);(case c16=>k_is);(case J7=>k_is)
   (case a17=>k_is);(case J8=>k_is);(case J9=>k_is);(case J_=>k_is)
   (case a18=>k_is);(case Ka=>k_is);(case Kc=>k_is);(case Ke=>k_is)
   (case a19=>k_is);(case Kf=>k_is);(case Kg=>k_is);(case Kh=>k_is)
   (case a20=>k_is);(case Kl=>k_is);(case Km=>k_is);(case Ko=>k_is)
   (case a21=>k_is);(case Kq=>k_is);(case c21=>k_is);(case Kr=>k_is)
   (case a22=>k_is);(case Ks=>k_is);(case Ku=>k_is);(case Kv=>k_is)
   (case a23=>k_is);(case Kw=>k_is);(case Ky=>k_is);(case Kz=>k_is)
   (case a24=>k_is);(case KC=>k_is);(case KD=>k_is);(case KH=>k_is)
   (case a25=>k_is);(case KJ=>k_is);(case KQ=>k_is);(case KR=>k_is)
   (case a26=>k_is);(case KY=>k_is);(case KZ=>k_is);(case K1=>k_is)
   (case a27=>k_is);(case K3=>k_is);(case K4=>k_is);(case K5=>k_is)
   (case a28=>k_is);(case K6=>k_is);(case K7=>k_is);(case K8=>k_is)
   (case a29=>k_is);(case K9=>k_is);(case K_=>k_is);(case La=>k_is)
   (case Lb=>k_is)
   (case Ld=>k_is)
   (case Le=>k_is)
   (case Lf=>k_is)
   (case Lg=>k_is)
   (case Lh=>k_is)
   (case Li=>k_is)
   (case Lj=>k_is)
   (case Lk=>k_is)
   (case Ln=>k_is)
   (case Lp=>k_is)
   (case Lq=>k_is)
   (case Lr=>k_is)
   (case Ls=>k_is)
   (case Lx=>k_is)
   (case Ly=>k_is)
   (case LK=>k_is)
   (case LR=>k_is)
   (case Ma=>k_is)
   (case Mf=>k_is)
   (case Mg=>k_is);(case Y9=>k_is);(case Y_=>rfl)
   (case Mh=>k_is);(case Zc=>k_is);(case Zd=>rfl)
   (case Zf=>k_is);(case Mi=>k_is);(case Mj=>k_is);(case Ml=>k_is)
   (case Zh=>k_is);(case Mp=>k_is);(case Mq=>k_is);(case Bb=>k_is)
   (case Zj=>k_is);(case Mr=>k_is);(case Ms=>k_is);(case Bc=>k_is)
   (case Zm=>k_is);(case Mt=>k_is);(case Mv=>k_is);(case Bd=>k_is)
   (case Zo=>k_is);(case Mw=>k_is);(case Mx=>k_is);(case Bf=>k_is)
   (case Zr=>k_is);(case Mz=>k_is);(case MF=>k_is);(case MJ=>k_is)
   (case MK=>kernel_rfl)
   (case at0=>kernel_rfl)
   (case MN=>kernel_rfl)
   (case at1=>kernel_rfl)
   (case M4=>kernel_rfl)
   (case at2=>kernel_rfl)
   (case M5=>kernel_rfl)
   (case M6=>kernel_rfl)
   (case M7=>kernel_rfl)
   (case M8=>kernel_rfl)
   (case M9=>kernel_rfl)
   (case Zt=>kernel_rfl)
   (case M_=>kernel_rfl)
   (case Nb=>kernel_rfl)
   (case Nf=>kernel_rfl)
   (case Ng=>kernel_rfl)
   (case Nh=>kernel_rfl)
   (case Ni=>kernel_rfl)
   (case Nj=>kernel_rfl)
   (case Nk=>kernel_rfl)
   (case Np=>kernel_rfl)
   (case Nq=>kernel_rfl)
   (case Nr=>kernel_rfl)
   (case Nt=>kernel_rfl)
   (case Nu=>kernel_rfl)
   (case Bg=>kernel_rfl)
   (case Nv=>kernel_rfl)
   (case Ny=>kernel_rfl)
   (case Nz=>kernel_rfl)
   (case NK=>kernel_rfl)
   (case NP=>kernel_rfl)
   (case cp_is=>kernel_rfl)
   (case NQ=>kernel_rfl)
   (case NT=>kernel_rfl)
   (case NZ=>kernel_rfl)
   (case N5=>kernel_rfl)
   (case N6=>kernel_rfl)
   (case N7=>kernel_rfl)
   (case N8=>kernel_rfl)
   (case N_=>kernel_rfl)
   (case Oa=>kernel_rfl)
   (case Ob=>kernel_rfl)
   (case Oc=>rfl)
   (case Zv=>k_is)
   (case Zw=>rfl)
   (case Od=>kernel_rfl)
