import PyProof.Rows.All
import Wide.All
import OpenK.AllK
import Wide.FinOn
import Lean
import PyProof.EqAt
import PyProof.EqKinds
import PyProof.TupleCall
import KE.KSortAsk
import PyProof.NeKinds
import PyProof.StationsW
import PyProof.ExcClass3
import PyProof.Rows.Own
import PyProof.NsDelKeeps
import KE.KIsAll
import PyProof.ExcAttrAll.ValueError
import PyProof.IsiH_list
import PyProof.Rows.FStr
import PyProof.FString4
import PyProof.StrLawsRepr
import PyProof.ExcInit
import PyProof.InstStoreFacts
import PyProof.Rows.SetFrom
import PyProof.StrLawsIn
import PyProof.Rows.StrNews2
import PyProof.StrBlockI
import KE.IntText
import KE.KIntText
import PyProof.FString5
import PyProof.ExcBaseAll.ValueError
import PyProof.Rows.StrMeet
import KE.KRevIter
import PySem.Challenge.RW_putback_k72_no_kind_in_text
set_option genSizeOf false
set_option Elab.async false
set_option linter.all false
set_option maxRecDepth 100000
set_option maxHeartbeats 4000000
theorem um:0<=PySem.sizeLine:=by decide
theorem cJ:1<=PySem.sizeLine:=by decide
theorem bC:2<=PySem.sizeLine:=by decide
theorem zZ:3<=PySem.sizeLine:=by decide
theorem gw:4<=PySem.sizeLine:=by decide
theorem abW:5<=PySem.sizeLine:=by decide
theorem Fg:6<=PySem.sizeLine:=by decide
theorem abX:7<=PySem.sizeLine:=by decide
theorem Rm:8<=PySem.sizeLine:=by decide
theorem abY:16<=PySem.sizeLine:=by decide
namespace L2
open PySem PySem.Spec PyProof.Rows
noncomputable abbrev Key:=Sum Int Str
noncomputable def Rn:Key->Value->Bool
 | .inl k,v=>Value.isInt k v
 | .inr x,v=>Value.isStrOf x v
noncomputable def abZ (w:World):Key->Int
 | .inl k=>hashInt k
 | .inr x=>hashStr w x
theorem ou:∀{k:Key}{v:Value},Rn k v=true->(∃i t,k=Sum.inl i/\v=Value.int i t)\/(∃x t,k=Sum.inr x/\v=Value.str x t)
 | .inl i,v,h=>by
   obtain⟨t,e⟩:=Value.isInt_shape (k:=i) (v:=v) h
   exact .inl ⟨i,t,rfl,e⟩
 | .inr x,v,h=>by
   obtain⟨t,e⟩:=Value.isStrOf_shape (x:=x) (v:=v) h
   exact .inr ⟨x,t,rfl,e⟩
theorem ab0 (a b:Int):decide ((Sum.inl a:Key)=Sum.inl b)=(a == b):=by
 by_cases e:a=b
 . subst e;simp
 . have h:¬(Sum.inl a:Key)=Sum.inl b:=λq=>e (Sum.inl.inj q)
   rw[decide_eq_false h]
   exact(beq_eq_false_iff_ne.mpr e).symm
theorem ab1 (a b:Str):decide ((Sum.inr a:Key)=Sum.inr b)=decide (a=b):=by
 by_cases e:a=b
 . subst e;simp
 . have h:¬(Sum.inr a:Key)=Sum.inr b:=λq=>e (Sum.inr.inj q)
   rw[decide_eq_false h,decide_eq_false e]
theorem ab2 (a:Int)(b:Str):decide ((Sum.inl a:Key)=Sum.inr b)=false:=decide_eq_false (λq=>nomatch q)
theorem ab3 (a:Str)(b:Int):decide ((Sum.inr a:Key)=Sum.inl b)=false:=decide_eq_false (λq=>nomatch q)
noncomputable def Ro (prog:Program) (w:World):PySem.KeyKind prog w Key where
 is:=Rn
 hash:=abZ w
 inj:=λv a b ha hb=>by
  rcases ou ha with⟨i,t,rfl,rfl⟩|⟨x,t,rfl,rfl⟩
  . rcases ou hb with⟨j,u,rfl,e⟩|⟨y,u,rfl,e⟩
    . injection e with e1 _;rw[e1]
    . exact nomatch e
  . rcases ou hb with⟨j,u,rfl,e⟩|⟨y,u,rfl,e⟩
    . exact nomatch e
    . injection e with e1 _;rw[e1]
 byValue:=λk v h=>by
  rcases ou h with⟨i,t,rfl,rfl⟩|⟨x,t,rfl,rfl⟩ <;> rfl
 pyHash:=λhv h=>by
  rcases ou hv with⟨i,t,rfl,rfl⟩|⟨x,t,rfl,rfl⟩
  . exact wpAny_pyHash_int h
  . exact wpAny_pyHash_str h
 eqBool:=λhu hv h=>by
  rcases ou hu with⟨i,t,rfl,rfl⟩|⟨x,t,rfl,rfl⟩
  . rcases ou hv with⟨j,u,rfl,rfl⟩|⟨y,u,rfl,rfl⟩
    . rw[ab0] at h;exact wpAny_eqBool_int h
    . rw[ab2] at h;exact SeqAt.EqAt.int_str i t y u _ _ _ _ h
  . rcases ou hv with⟨j,u,rfl,rfl⟩|⟨y,u,rfl,rfl⟩
    . rw[ab3] at h;exact SeqAt.EqAt.str_int x t j u _ _ _ _ h
    . rw[ab1] at h;exact wpAny_eqBool_str h
 «strs»:=λk x t v h=>by
  rcases ou h with⟨i,u,rfl,e⟩|⟨y,u,rfl,e⟩
  . exact nomatch e
  . injection e with e1 _
    subst e1
    cases v <;> rfl
inductive V where
 |non|bl (b:Bool)|int (i:Int)|str (x:Str)|kW (b:Array UInt8)|flt (b:UInt64)|ref (a:Addr)|ty (n:String)
 deriving DecidableEq
noncomputable def RelV:V->Value->Prop
 | .non,u=>u=Value.none
 | .bl b,u=>u=Value.bool b
 | .int i,u=>∃t,u=Value.int i t
 | .str x,u=>∃t,u=Value.str x t
 | .kW b,u=>∃t,u=Value.bytes b t
 | .flt b,u=>∃t,u=Value.float b t
 | .ref a,u=>u=Value.ref a
 | .ty n,u=>u=Value.type n
noncomputable abbrev Vals:List V->List Value->Prop:=Paired RelV
theorem Vals.length {xs:List V}{us:List Value}(r:Vals xs us):xs.length=us.length:=Paired.length r
theorem Vals.get:∀{xs:List V}{us:List Value}{i:Nat}{x:V},Vals xs us->xs[i]? =some x->∃u,us[i]? =some u/\RelV x u
 |_,_,_,_,.nil,e=>by simp at e
 |_,_,0,_,.cons r _,e=>by simp at e;subst e;exact⟨_,rfl,r⟩
 |_,_,i+1,x,.cons _ t,e=>by
  obtain⟨u,h1,h2⟩:=Vals.get (i:=i) (x:=x) t (by simpa using e)
  exact⟨u,by simpa using h1,h2⟩
theorem Vals.set {x:V}{u:Value}(r:RelV x u):∀{xs:List V}{us:List Value}(i:Nat),Vals xs us->Vals (xs.set i x) (us.set i u)
 |_,_,_,.nil=>.nil
 |_,_,0,.cons _ t=>.cons r t
 |_,_,i+1,.cons q t=>.cons q (Vals.set r i t)
theorem Vals.append:∀{xs ys:List V}{us ws:List Value},Vals xs us->Vals ys ws->Vals (xs++ys) (us++ws)
 |_,_,_,_,.nil,s=>s
 |_,_,_,_,.cons r t,s=>.cons r (Vals.append t s)
theorem Vals.take:∀{xs:List V}{us:List Value}(n:Nat),Vals xs us->Vals (xs.take n) (us.take n)
 |_,_,0,_=>.nil
 |_,_,_+1,.nil=>.nil
 |_,_,n+1,.cons r t=>.cons r (Vals.take n t)
theorem Vals.drop:∀{xs:List V}{us:List Value}(n:Nat),Vals xs us->Vals (xs.drop n) (us.drop n)
 |_,_,0,r=>r
 |_,_,_+1,.nil=>.nil
 |_,_,n+1,.cons _ t=>Vals.drop n t
theorem Vals.none_of:∀{xs:List V}{us:List Value}{i:Nat},Vals xs us->xs[i]? =none->us[i]? =none:=λ{xs us i} r e=>by
 have h1:=r.length
 have h2:xs.length<=i:=List.getElem?_eq_none_iff.mp e
 exact List.getElem?_eq_none_iff.mpr (by omega)
noncomputable def lN:Option V->Option Value->Prop
 |some v,some u=>RelV v u
 |none,none=>True
 |_,_=>False
noncomputable def KV {κ:Type}:List (κ × V)->List (κ × Value)->Prop:=Paired λ(p:κ × V) (q:κ × Value)=>p.1=q.1/\RelV p.2 q.2
noncomputable def kV:Key->V
 | .inl i=>.int i
 | .inr x=>.str x
inductive HO where
 |lst (xs:List V)
 |tup (xs:List V)
 |dK (kvs:List (Key × V))|dT (kvs:List (List Key × V))
 |set (S:Int->Bool) (n:Nat)
 |ins (C dx:Addr) (fs:List (Str × V))
 |own (x:Addr)
 |xd (fs:List (Str × V))
 |met (f x:Addr)
 |rng (lo hi:Int)
 |kY (o:Obj) (u:HO)
 |eF (ps:Array Value)
 |ext (φ:Heap->Prop)
noncomputable abbrev Hp:=Addr->Option HO
noncomputable def upd (H:Hp) (a:Addr) (o:HO):Hp:=λb=>if b=a then some o else H b
theorem aG {H:Hp}{a:Addr}{o:HO}:upd H a o a=some o:=by unfold upd;rw[if_pos rfl]
theorem aq {H:Hp}{a b:Addr}{o:HO}(h:b≠a):upd H a o b=H b:=by unfold upd;rw[if_neg h]
theorem fW {H:Hp}{a b:Addr}{o u:HO}(h:H a=some o)(h':H b=some u)(d:o≠u):a≠b:=by
 intro e;subst e;rw[h] at h';exact d (Option.some.inj h')
theorem aJ {H:Hp}{a b:Addr}{o:HO}(h:H a=some o)(h':H b=none):a≠b:=by
 intro e;subst e;rw[h] at h';cases h'
section
variable (P:Program)(w:World)
noncomputable def eG (H:Hp) (h:Heap) (a:Addr):HO->Prop
 | .lst xs=>xs.length<=sizeLine/\∃(its:List Value) (n:Nat),Vals xs its/\h.get? a=some { cls:=.type "list",data:=.seq its.toArray n }
 | .tup xs=>xs.length<=sizeLine/\∃its:List Value,Vals xs its/\IsTup h a its.toArray
 | .dK kvs=>kvs.length<=sizeLine/\(a == sysModules)=false/\∃vs,KV kvs vs/\h.DictOf (Ro P w) a vs
 | .dT kvs=>kvs.length<=sizeLine/\(a == sysModules)=false/\∃xs:List (List Key × Addr × Value),
    Paired (λ(p:List Key × V) (q:List Key × Addr × Value)=>p.1=q.1/\H q.2.1=some (.tup (p.1.map kV))/\RelV p.2 q.2.2) kvs xs/\
    ∃o es ep,h.get? a=some o/\o.ExactDict/\o.data=.dict es ep/\es.toList=xs.map (entryOfKey (tupleKind (Ro P w)))/\(xs.map (·.1)).Nodup
 | .set S n=>h.SetOf (intKind P w) a S n
 | .ins C dx fs=>H dx=some (.own a)/\fs.length<=1000/\dx≠a/\h.get? a=some (W.instObj C dx)/\
    ∃mA,h.Ns1 dx mA/\(∀f,lN (fs.lookup f) (mA f))/\PySem.Within mA (fs.map (·.1))
 | .own _=>∃o,h.get? a=some o
 | .xd fs=>∃mA,h.Ns1 a mA/\∀f,lN (fs.lookup f) (mA f)
 | .rng lo hi=>∃t u v,h.get? a=some { cls:=.type "range",data:=.fields #[.int lo t,.int hi u,.int 1 v] }
 | .kY o u=>h.get? a=some o/\eG H h a u
 | .eF ps=>h.get? a=some { cls:=.none,data:=.fields ps }
 | .met f x=>h.get? a=some (W.methodObj (.ref f) (.ref x))
 | .ext φ=>φ h/\(∃o,h.get? a=some o)/\∀h1 h2:Heap,φ h1->(∀o,h1.get? a=some o->h2.get? a=some o)->φ h2
noncomputable def cQ (H:Hp) (h:Heap):Prop:=∀a o,H a=some o->eG P w H h a o
end
section
variable {P:Program}{w:World}{H H':Hp}{h h':Heap}{a:Addr}{o:HO}
theorem eG.lt (x:eG P w H h a o):a<h.objs.size:=by
 cases o with
 |lst xs=>obtain⟨_,_,_,_,e⟩:=x;exact Heap.lt_size e
 |tup xs=>obtain⟨_,_,_,p⟩:=x;exact p.lt
 |dK kvs=>obtain⟨_,_,_,_,o,_,_,e,_⟩:=x;exact Heap.lt_size e
 |dT kvs=>obtain⟨_,_,_,_,o,_,_,e,_⟩:=x;exact Heap.lt_size e
 |set S n=>obtain⟨o,_,_,_,e,_⟩:=x;exact Heap.lt_size e
 |ins C dx fs=>obtain⟨_,_,_,e,_⟩:=x;exact Heap.lt_size e
 |own y=>obtain⟨_,e⟩:=x;exact Heap.lt_size e
 |xd fs=>obtain⟨_,⟨_,_,_,e,_⟩,_⟩:=x;exact Heap.lt_size e
 |rng lo hi=>obtain⟨_,_,_,e⟩:=x;exact Heap.lt_size e
 |kY ob u=>obtain⟨e,_⟩:=x;exact Heap.lt_size e
 |eF ps=>exact Heap.lt_size (show h.get? a=some _ from x)
 |met f y=>exact Heap.lt_size (show h.get? a=some _ from x)
 |ext φ=>obtain⟨_,⟨_,e⟩,_⟩:=x;exact Heap.lt_size e
theorem Paired.Rp {α β:Type}{F G:α->β->Prop}:∀{l₁:List α}{l₂:List β},Paired F l₁ l₂->(∀a b,F a b->G a b)->Paired G l₁ l₂
 |_,_,.nil,_=>.nil
 |_,_,.cons r t,f=>.cons (f _ _ r) (Paired.Rp t f)
theorem eG.stay (x:eG P w H h a o)(k:∀b u,(b=a\/H b=some (.own a))->h.get? b=some u->h'.get? b=some u)
 (ho:∀b,H b=some (.own a)->H' b=some (.own a)) (ht:∀b xs,H b=some (.tup xs)->H' b=some (.tup xs)):eG P w H' h' a o:=by
 induction o with
 |lst xs=>obtain⟨z,its,n,r,e⟩:=x;exact⟨z,its,n,r,k _ _ (.inl rfl) e⟩
 |tup xs=>obtain⟨z,its,r,ob,e,c⟩:=x;exact⟨z,its,r,ob,k _ _ (.inl rfl) e,c⟩
 |dK kvs=>obtain⟨z,y,vs,r,ob,es,ep,e,c⟩:=x;exact⟨z,y,vs,r,ob,es,ep,k _ _ (.inl rfl) e,c⟩
 |dT kvs=>
  obtain⟨z,y,xs,r,ob,es,ep,e,c⟩:=x
  exact⟨z,y,xs,Paired.Rp r λp q z=>⟨z.1,ht _ _ z.2.1,z.2.2⟩,ob,es,ep,k _ _ (.inl rfl) e,c⟩
 |set S n=>obtain⟨ob,es,ep,t,e,c⟩:=x;exact⟨ob,es,ep,t,k _ _ (.inl rfl) e,c⟩
 |ins C dx fs=>
  obtain⟨d,z,ne,e,mA,⟨od,es,ep,e2,c⟩,r⟩:=x
  exact⟨ho _ d,z,ne,k _ _ (.inl rfl) e,mA,⟨od,es,ep,k _ _ (.inr d) e2,c⟩,r⟩
 |own y=>obtain⟨ob,e⟩:=x;exact⟨ob,k _ _ (.inl rfl) e⟩
 |xd fs=>obtain⟨mA,⟨od,es,ep,e,c⟩,r⟩:=x;exact⟨mA,⟨od,es,ep,k _ _ (.inl rfl) e,c⟩,r⟩
 |rng lo hi=>obtain⟨t,u,v,e⟩:=x;exact⟨t,u,v,k _ _ (.inl rfl) e⟩
 |kY ob u ih=>obtain⟨e,q⟩:=x;exact⟨k _ _ (.inl rfl) e,ih q⟩
 |eF ps=>
  have e:h.get? a=some { cls:=.none,data:=.fields ps }:=x
  show h'.get? a=some { cls:=.none,data:=.fields ps }
  exact k a _ (.inl rfl) e
 |met f y=>
  have e:h.get? a=some (W.methodObj (.ref f) (.ref y)):=x
  show h'.get? a=some (W.methodObj (.ref f) (.ref y))
  exact k a _ (.inl rfl) e
 |ext φ=>obtain⟨p,⟨o,e⟩,st⟩:=x;exact⟨st _ _ p λo q=>k _ _ (.inl rfl) q,⟨o,k _ _ (.inl rfl) e⟩,st⟩
theorem cQ.lt (x:cQ P w H h)(e:H a=some o):a<h.objs.size:=(x a o e).lt
theorem cQ.fresh (x:cQ P w H h)(e:h.objs.size<=a):H a=none:=by
 cases q:H a with
 |none=>rfl
 |some u=>exact absurd (Nat.lt_of_lt_of_le (x.lt q) e) (Nat.lt_irrefl _)
theorem cQ.kept (x:cQ P w H h)(k:∀b u,h.get? b=some u->h'.get? b=some u):cQ P w H h':=λa o e=>
 (x a o e).stay (λb u _ q=>k b u q) (λ_ q=>q) λ_ _ q=>q
theorem cQ.laid (x:cQ P w H h)(k:∀b u,h.get? b=some u->h'.get? b=some u)(hp:h.objs.size<=a)(new:eG P w (upd H a o) h' a o):cQ P w (upd H a o) h':=λb u e=>by
 have hn:=x.fresh hp
 by_cases hb:b=a
 . subst hb;rw[aG] at e;cases e;exact new
 . rw[aq hb] at e
   exact(x b u e).stay (λc v _ q=>k c v q) (λc q=>by rw[aq (aJ q hn)];exact q) λc xs q=>by rw[aq (aJ q hn)];exact q
end
noncomputable def Rd (H:Hp) (a:Addr) (u:HO):Prop:=H a=some u\/∃o,H a=some (.kY o u)
theorem Rd.ok {P:Program}{w:World}{H:Hp}{h:Heap}{a:Addr}{u:HO}(r:Rd H a u)(x:cQ P w H h):eG P w H h a u:=by
 rcases r with r|⟨o,r⟩
 . exact x a u r
 . obtain⟨_,q⟩:=x a _ r
   exact q
noncomputable def z7:Option HO->Prop
 |some (.lst _)=>True
 |some (.dK _)=>True
 |some (.dT _)=>True
 |some (.set _ _)=>True
 |some (.ins _ _ _)=>True
 |some (.ext _)=>True
 |_=>False
section
variable {P:Program}{w:World}{H:Hp}{h h':Heap}{x e:Addr}{o':HO}
theorem cQ.write (ok:cQ P w H h)(mu:z7 (H x))(he:e=x\/H e=some (.own x))(k:∀b u,b≠e->h.get? b=some u->h'.get? b=some u)(heo:∃u,h'.get? e=some u)
 (new:eG P w (upd H x o') h' x o'):cQ P w (upd H x o') h':=λb u q=>by
 have Rq:∀c y,H c=some (.own y)->c≠x:=λc y r z=>by subst z;rw[r] at mu;exact mu
 have ab4:∀c xs,H c=some (.tup xs)->c≠x:=λc xs r z=>by subst z;rw[r] at mu;exact mu
 by_cases hb:b=x
 . subst hb;rw[aG] at q;cases q;exact new
 . rw[aq hb] at q
   by_cases hbe:b=e
   . have q':H b=some (.own x):=by
      rcases he with z|z
      . exact absurd (hbe.trans z) hb
      . rw[hbe];exact z
     rw[q] at q';cases q'
     obtain⟨v,hv⟩:=heo
     exact⟨v,by rw[hbe];exact hv⟩
   . refine(ok b u q).stay (λc v hc r=>k c v ?_ r) (λc r=>by rw[aq (Rq c b r)];exact r) λc xs r=>by rw[aq (ab4 c xs r)];exact r
     rcases hc with rfl|hc
     . exact hbe
     . rintro rfl
       rcases he with z|z
       . exact Rq c b hc z
       . rw[hc] at z;cases z;exact hb rfl
end
structure Un (fs ex:List Addr) (H H':Hp) (h h':Heap):Prop where
 keep:∀b o,h.get? b=some o->H b=none->b ∉ fs->b ∉ ex->h'.get? b=some o
 slot:∀b o,h.get? b=some o->H b=none->b∈fs->b ∉ ex->∃sl,h'.get? b=some { o with slots:=sl }
 free:∀b o,h.get? b=some o->H b=none->b ∉ ex->H' b=none
 there:∀b o,h.get? b=some o->b ∉ ex->∃o',h'.get? b=some o'
 tups:∀b xs,H b=some (.tup xs)->H' b=some (.tup xs)
 iT:∀b o u,H b=some (.kY o u)->H' b=some (.kY o u)
 iU:∀b ps,H b=some (.eF ps)->∃more,H' b=some (.eF (ps++more))
section
variable {fs fs' ex ex':List Addr}{H H1 H2:Hp}{h h1 h2 h':Heap}{a x e:Addr}{o:HO}
theorem Un.any (u:Un fs ex H H1 h h1){b:Addr}{ob:Obj}(q:h.get? b=some ob)(n:H b=none)(hx:b ∉ ex):∃sl,h1.get? b=some { ob with slots:=sl }:=by
 by_cases hb:b∈fs
 . exact u.slot b ob q n hb hx
 . exact⟨ob.slots,u.keep b ob q n hb hx⟩
theorem Un.kept (k:∀b u,h.get? b=some u->h'.get? b=some u):Un fs ex H H h h':=
 ⟨λb ob q _ _ _=>k b ob q,λb ob q _ _ _=>⟨ob.slots,k b ob q⟩,λ_ _ _ n _=>n,λb ob q _=>⟨ob,k b ob q⟩,λ_ _ q=>q,λ_ _ _ q=>q,λ_ ps q=>⟨#[],by rw[q];simp⟩⟩
theorem Un.refl:Un fs ex H H h h:=Un.kept λ_ _ q=>q
theorem Un.laid (k:∀b u,h.get? b=some u->h'.get? b=some u)(hp:h.objs.size<=a)(hn:H a=none):Un fs ex H (upd H a o) h h' where
 keep:=λb u q _ _ _=>k b u q
 slot:=λb u q _ _ _=>⟨u.slots,k b u q⟩
 free:=λb u q n _=>by rw[aq (Nat.ne_of_lt (Nat.lt_of_lt_of_le (Heap.lt_size q) hp))];exact n
 there:=λb u q _=>⟨u,k b u q⟩
 tups:=λb xs q=>by rw[aq (aJ q hn)];exact q
 iT:=λb u xs q=>by rw[aq (aJ q hn)];exact q
 iU:=λb ps q=>⟨#[],by rw[aq (aJ q hn),q];simp⟩
theorem Un.write (mu:z7 (H x))(he:e=x\/H e=some (.own x))(k:∀b u,b≠e->h.get? b=some u->h'.get? b=some u)(heo:∃u,h'.get? e=some u):Un fs ex H (upd H x o) h h':=by
 have hx:∀b,H b=none->b≠x:=λb n z=>by subst z;rw[n] at mu;exact mu
 have hb:∀b,H b=none->b≠e:=λb n z=>by
  subst z
  rcases he with r|r
  . exact hx b n r
  . rw[n] at r;cases r
 have hm:∀b u,H b=some u->¬z7 (some u)->b≠x:=λb u q nm z=>by subst z;rw[q] at mu;exact nm mu
 refine⟨λb u q n _ _=>k b u (hb b n) q,λb u q n _ _=>⟨u.slots,k b u (hb b n) q⟩,λb u q n _=>by rw[aq (hx b n)];exact n,λb u q _=>?_,
  λb xs q=>by rw[aq (hm b _ q λz=>z)];exact q,λb u xs q=>by rw[aq (hm b _ q λz=>z)];exact q,λb ps q=>⟨#[],by rw[aq (hm b _ q λz=>z),q];simp⟩⟩
 by_cases hbe:b=e
 . subst hbe;exact heo
 . exact⟨u,k b u hbe q⟩
end
noncomputable def z8 (h:Heap) (H:Hp):List Addr:=(List.range h.objs.size).filter λa=>(H a).isSome
noncomputable def m9 (h:Heap) (H:Hp):Heap:=W.hideAll h (z8 h H)
theorem ab5 (h:Heap)(H:Hp):(m9 h H).objs.size=h.objs.size:=W.hideAll_size _ _
theorem ab6 {h:Heap}{H:Hp}{b:Addr}{o:Obj}(e:h.get? b=some o)(n:H b=none):(m9 h H).get? b=some o:=
 W.hideAll_get _ e λhm=>by
   have q:(H b).isSome=true:=(List.mem_filter.mp hm).2
   rw[n] at q;simp at q
theorem ab7 {h:Heap}{H:Hp}{b:Addr}{o:Obj}(e:(m9 h H).get? b=some o):h.get? b=some o/\H b=none:=by
 have e':h.get? b=some o:=W.of_hideAll (z8 h H) e
 refine⟨e',?_⟩
 cases q:H b with
 |none=>rfl
 |some x=>
  have hm:b∈z8 h H:=List.mem_filter.mpr ⟨List.mem_range.mpr (Heap.lt_size e'),by simp[q]⟩
  have z:(m9 h H).get? b=none:=W.hideAll_none (z8 h H) hm
  rw[z] at e;cases e
noncomputable def ab8 (g h:Heap) (L:Addr):List (Addr × Obj):=(List.range h.objs.size).filterMap λa=>if a=L\/(g.get? a).isSome=true then none else(h.get? a).map λo=>(a,o)
noncomputable def rest (g h:Heap) (L d:Addr):List (Addr × Obj):=(ab8 g h L).filter λp=>decide (p.1≠d)
structure Mod (K:W.Frag) (mg:Str->Option Value) (base:Heap):Prop where
 pC:K.In base
 glob:base.Ns mainGlobals mg
 blt:∃mb,base.Ns builtinsNs mb/\∀x:Str,x≠"__name__"->mb x=bootBuiltins x
 nolimit:base.NoLimit
structure Cx where
 prog:Program
 w:World
 K:W.Frag
 mg:Str->Option Value
 base:Heap
 A:Around
 N:List Str
 s₀:Shared
 H₀:Hp
 env:Env
 outer:List Env
 stack:List Env
 ex:List Addr
 fn:Str->Bool
 calm:Bool
 pn:List (Addr × Obj)
 xe:Value->Shared->Prop
noncomputable def frs (l:List Env):List Addr:=l.filterMap (·.frame)
noncomputable abbrev Cx.fs (X:Cx):List Addr:=frs X.outer
noncomputable def z9 (sc:Scope) (x:Str):Prop:=sc.names.lookup x=some .local\/sc.names.lookup x=some .cell\/sc.names.lookup x=some .free
noncomputable def Loc (sc:Scope) (x:Str):Prop:=sc.names.lookup x=some .local\/sc.names.lookup x=some .cell
noncomputable def Look (env:Env) (h:Heap) (m:Str->Option Value) (x:Str) (u:Value):Prop:=
 (env.kindOf x=some .local/\m x=some u)\/((env.kindOf x=some .cell\/env.kindOf x=some .free)/\∃c,env.cells.lookup x=some c/\h.IsCell c (some u))
structure Cx.Ok (X:Cx):Prop where
 mod:Mod X.K X.mg X.base
 kind:X.env.scope.kind=.function
 glob:X.env.globals=mainGlobals
 blt:X.env.builtins=builtinsNs
 above:X.s₀.heap.objs.size<=X.env.locals
 inj:∀x y c,X.env.cells.lookup x=some c->X.env.cells.lookup y=some c->x=y
 has:∀x,(X.env.kindOf x=some .cell\/X.env.kindOf x=some .free)->∃c,X.env.cells.lookup x=some c
 cab:∀x c,X.fn x=true->X.env.cells.lookup x=some c->X.s₀.heap.objs.size<=c
 hd:X.calm=true->X.A.handled=none
 frames:X.A.frames=some X.stack
 stk:X.stack=X.outer\/(X.stack=X.env::X.outer/\X.env.frame=some X.env.locals)
 Fi:∀b∈X.ex,b≠X.env.locals/\∀x c,X.env.cells.lookup x=some c->c≠b
 bs:∀b o,X.base.get? b=some o->X.s₀.heap.get? b=some o/\X.H₀ b=none
 jU:X.base.objs.size<=X.s₀.heap.objs.size
 uo:∀b o,X.base.get? b=some o->b ∉ X.ex
 wz:∀b∈X.ex,b ∉ X.fs
 jV:X.s₀.heap.FunFrames X.base X.outer
 pF:∀b∈X.fs,X.H₀ b=none
structure Inv (X:Cx) (pins:List (Addr × Obj)) (σ:List (Option V)) (H:Hp) (s:Shared):Prop where
 ok:X.Ok
 os:s.os=X.s₀.os
 bare:AllBare s.gens
 base:Un X.fs X.ex X.H₀ H X.s₀.heap s.heap
 loc:∃m,s.heap.Ns X.env.locals m/\∀(i:Nat) (x:Str) (v:V),X.N[i]? =some x->σ[i]? =some (some v)->z9 X.env.scope x->∃u,RelV v u/\Look X.env s.heap m x u
 cell:∀x c,X.env.cells.lookup x=some c->∃v,s.heap.IsCell c v
 free:H X.env.locals=none
 gR:∀x c,X.env.cells.lookup x=some c->H c=none
 pin:∀p∈X.pn++pins,s.heap.get? p.1=some p.2/\H p.1=none/\p.1≠X.env.locals/\p.1 ∉ X.fs/\∀v,p.2.data≠ .cell v
 hok:cQ X.prog X.w H s.heap
 len:σ.length=X.N.length
section
variable {X:Cx}{pins:List (Addr × Obj)}{σ:List (Option V)}{H H':Hp}{s:Shared}{h':Heap}
theorem Cx.Ok.ab9 (ok:X.Ok){b:Addr}{o:Obj}(e:X.base.get? b=some o):b ∉ X.fs:=λhb=>by
 have:=(ok.jV.mem hb).1
 rw[e] at this;cases this
theorem Inv.bs (I:Inv X pins σ H s):∀b o,X.base.get? b=some o->s.heap.get? b=some o/\H b=none:=λb o e=>
 ⟨I.base.keep b o (I.ok.bs b o e).1 (I.ok.bs b o e).2 (I.ok.ab9 e) (I.ok.uo b o e),I.base.free b o (I.ok.bs b o e).1 (I.ok.bs b o e).2 (I.ok.uo b o e)⟩
theorem Inv.bk (I:Inv X pins σ H s):∀b o,X.base.get? b=some o->s.heap.get? b=some o:=λb o e=>(I.bs b o e).1
theorem Inv.mod (I:Inv X pins σ H s):Mod X.K X.mg X.base:=I.ok.mod
theorem Inv.eH (I:Inv X pins σ H s):X.K.In s.heap:=I.ok.mod.pC.keeps I.bk
theorem Inv.nolimit (I:Inv X pins σ H s):s.heap.NoLimit:=I.ok.mod.nolimit.keeps I.bk
theorem Inv.lt (I:Inv X pins σ H s):X.env.locals<s.heap.objs.size:=let⟨_,hn,_⟩:=I.loc;hn.lt
theorem Inv.sz (I:Inv X pins σ H s):X.s₀.heap.objs.size<=s.heap.objs.size:=Nat.le_trans I.ok.above (Nat.le_of_lt I.lt)
theorem Inv.uq (I:Inv X pins σ H s){a:Addr}(h:s.heap.objs.size<=a):a ∉ X.fs:=λhb=>by
 obtain⟨_,o,ho,_⟩:=I.ok.jV.mem hb
 exact absurd (Nat.lt_of_lt_of_le (Heap.lt_size ho) (Nat.le_trans I.sz h)) (Nat.lt_irrefl _)
theorem Inv.jW (I:Inv X pins σ H s):∀x c,X.env.cells.lookup x=some c->c≠X.env.locals:=λx c e z=>by
 obtain⟨v,o,ho,hd⟩:=I.cell x c e
 obtain⟨m,⟨o',es,ep,ho',hd',_⟩,_⟩:=I.loc
 rw[z,ho'] at ho;cases ho;rw[hd'] at hd;cases hd
theorem Inv.jV (I:Inv X pins σ H s):s.heap.FunFrames X.base X.outer:=by
 have all:∀(l:List Env),(∀b∈frs l,b∈X.fs)->X.s₀.heap.FunFrames X.base l->s.heap.FunFrames X.base l:=by
  intro l
  induction l with
  |nil=>intro _ _;trivial
  |cons env r ih=>
   intro hs hl
   obtain⟨hk,⟨L,o,hf,hn,ho,hd⟩,hr⟩:=hl
   have hL:L∈X.fs:=hs L (by unfold frs;rw[List.filterMap_cons,hf];exact List.mem_cons_self)
   obtain⟨sl,e⟩:=I.base.slot L o ho (I.ok.pF L hL) hL λz=>I.ok.wz L z hL
   exact⟨hk,⟨L,_,hf,hn,e,hd⟩,ih (λb hb=>hs b (by unfold frs;rw[List.filterMap_cons,hf];exact List.mem_cons_of_mem _ hb)) hr⟩
 exact all X.outer (λ_ hb=>hb) I.ok.jV
theorem Inv.stack (I:Inv X pins σ H s):s.heap.FunFrames X.base X.stack:=by
 rcases I.ok.stk with e|⟨e,hf⟩
 . rw[e];exact I.jV
 . rw[e]
   obtain⟨m,hn,_⟩:=I.loc
   refine .cons (by rw[I.ok.kind];decide) hf hn ?_ I.jV
   exact Heap.get?_none_of_le (Nat.le_trans I.ok.jU I.ok.above)
theorem Inv.pG (I:Inv X pins σ H s):∀b∈frs X.stack,b∈X.env.locals::X.fs:=λb hb=>by
 rcases I.ok.stk with e|⟨e,hf⟩
 . rw[e] at hb;exact List.mem_cons_of_mem _ hb
 . rw[e] at hb
   unfold frs at hb
   rw[List.filterMap_cons,hf] at hb
   exact hb
theorem Inv.wA (I:Inv X pins σ H s):∀b∈frs X.stack,H b=none:=λb hb=>by
 rcases List.mem_cons.mp (I.pG b hb) with e|hb
 . rw[e];exact I.free
 . obtain⟨_,o,ho,_⟩:=I.ok.jV.mem hb
   exact I.base.free b o ho (I.ok.pF b hb) λz=>I.ok.wz b z hb
theorem Inv.step {g':Array GenState}{t':Nat}{d':Drawn}{ch:List Addr}(I:Inv X pins σ H s)
 (hch:∀b∈ch,(b∈X.ex\/X.s₀.heap.objs.size<=b)/\b≠X.env.locals/\(∀x c,X.env.cells.lookup x=some c->c≠b)/\∀p∈X.pn++pins,p.1≠b)
 (keep:∀b o,b≠X.env.locals->b ∉ X.fs->b ∉ ch->s.heap.get? b=some o->H b=none->h'.get? b=some o)
 (slot:∀b o,b≠X.env.locals->b∈X.fs->b ∉ ch->s.heap.get? b=some o->H b=none->∃sl,h'.get? b=some { o with slots:=sl }) (free:∀b o,b ∉ ch->s.heap.get? b=some o->H b=none->H' b=none)
 (there:∀b o,b ∉ ch->s.heap.get? b=some o->∃o',h'.get? b=some o')
 (tups:∀b xs,H b=some (.tup xs)->H' b=some (.tup xs)) (iT:∀b o u,H b=some (.kY o u)->H' b=some (.kY o u)) (iU:∀b ps,H b=some (.eF ps)->∃more,H' b=some (.eF (ps++more)))
 (ns:∀m,s.heap.Ns X.env.locals m->h'.Ns X.env.locals m) (hok:cQ X.prog X.w H' h') (hg:AllBare g'):
 Inv X pins σ H' { s with heap:=h',gens:=g',drawn:=d',toks:=t' }:=by
 have Rr:∀b o,X.s₀.heap.get? b=some o->b≠X.env.locals:=λb o e=>Nat.ne_of_lt (Nat.lt_of_lt_of_le (Heap.lt_size e) I.ok.above)
 have z_:∀b o,X.s₀.heap.get? b=some o->b ∉ X.ex->b ∉ ch:=λb o e hx hb=>by
  rcases(hch b hb).1 with z|z
  . exact hx z
  . exact absurd (Nat.lt_of_lt_of_le (Heap.lt_size e) z) (Nat.lt_irrefl _)
 have cellK:∀x c,X.env.cells.lookup x=some c->∀v,s.heap.IsCell c v->h'.IsCell c v:=λx c e v ⟨o,ho,hd⟩=>by
  have wB:c ∉ ch:=λz=>(hch c z).2.2.1 x c e rfl
  by_cases hc:c∈X.fs
  . obtain⟨sl,q⟩:=slot c o (I.jW x c e) hc wB ho (I.gR x c e)
    exact⟨_,q,hd⟩
  . exact⟨o,keep c o (I.jW x c e) hc wB ho (I.gR x c e),hd⟩
 refine⟨I.ok,I.os,hg,⟨λb o e n hb hx=>?_,λb o e n hb hx=>?_,λb o e n hx=>?_,λb o e hx=>?_,λb xs e=>tups b xs (I.base.tups b xs e),λb o xs e=>iT b o xs (I.base.iT b o xs e),λb ps e=>?_⟩,?_,λx c e=>?_,?_,λx c e=>?_,λp hp=>?_,hok,I.len⟩
 . exact keep b o (Rr b o e) hb (z_ b o e hx) (I.base.keep b o e n hb hx) (I.base.free b o e n hx)
 . obtain⟨sl,e1⟩:=I.base.slot b o e n hb hx
   obtain⟨sl',e2⟩:=slot b _ (Rr b o e) hb (z_ b o e hx) e1 (I.base.free b o e n hx)
   exact⟨sl',e2⟩
 . obtain⟨o',e1⟩:=I.base.there b o e hx
   exact free b o' (z_ b o e hx) e1 (I.base.free b o e n hx)
 . obtain⟨o',e1⟩:=I.base.there b o e hx
   exact there b o' (z_ b o e hx) e1
 . obtain⟨m1,e1⟩:=I.base.iU b ps e
   obtain⟨m2,e2⟩:=iU b _ e1
   exact⟨m1++m2,by rw[e2,Array.append_assoc]⟩
 . obtain⟨m,hn,hl⟩:=I.loc
   refine⟨m,ns m hn,λi x v e1 e2 e3=>?_⟩
   obtain⟨u,r,l⟩:=hl i x v e1 e2 e3
   refine⟨u,r,?_⟩
   rcases l with l|⟨k,c,e,z⟩
   . exact .inl l
   . exact .inr ⟨k,c,e,cellK x c e _ z⟩
 . obtain⟨v,z⟩:=I.cell x c e
   exact⟨v,cellK x c e v z⟩
 . obtain⟨m,⟨o,_,_,ho,_⟩,_⟩:=I.loc
   exact free _ o (λz=>(hch _ z).2.1 rfl) ho I.free
 . obtain⟨v,o,ho,hd⟩:=I.cell x c e
   exact free c o (λz=>(hch c z).2.2.1 x c e rfl) ho (I.gR x c e)
 . obtain⟨e,n,ne,nf,d⟩:=I.pin p hp
   have wB:p.1 ∉ ch:=λz=>(hch p.1 z).2.2.2 p hp rfl
   exact⟨keep p.1 p.2 ne nf wB e n,free p.1 p.2 wB e n,ne,nf,d⟩
theorem Inv.un {t':Nat}(I:Inv X pins σ H s)(u:Un X.fs [] H H' s.heap h')(hok:cQ X.prog X.w H' h'):Inv X pins σ H' { s with heap:=h',toks:=t' }:=by
 obtain⟨m,⟨o,es,ep,ho,r⟩,_⟩:=id I.loc
 obtain⟨sl,hL⟩:=u.any ho I.free (by simp)
 exact I.step (g':=s.gens) (d':=s.drawn) (ch:=[]) (λ_ z=>nomatch z) (λb o _ hb _ e n=>u.keep b o e n hb (by simp)) (λb o _ hb _ e n=>u.slot b o e n hb (by simp)) (λb o _ e n=>u.free b o e n (by simp)) (λb o _ e=>u.there b o e (by simp)) u.tups u.iT u.iU (λm' hm=>by
  obtain⟨o',es',ep',ho',r'⟩:=hm
  rw[ho] at ho';cases ho'
  exact⟨_,es',ep',hL,r'⟩) hok I.bare
theorem Inv.call {g':Array GenState}{t':Nat}{d':Drawn}{ch:List Addr}(I:Inv X pins σ H s)(u:Un (frs X.stack) ch H H' s.heap h')(hok:cQ X.prog X.w H' h')(hg:AllBare g')
 (hch:∀b∈ch,(b∈X.ex\/X.s₀.heap.objs.size<=b)/\b≠X.env.locals/\(∀x c,X.env.cells.lookup x=some c->c≠b)/\∀p∈X.pn++pins,p.1≠b):
 Inv X pins σ H' { s with heap:=h',gens:=g',drawn:=d',toks:=t' }:=by
 obtain⟨m,⟨o,es,ep,ho,r⟩,_⟩:=id I.loc
 obtain⟨sl,hL⟩:=u.any ho I.free λz=>(hch _ z).2.1 rfl
 exact I.step (ch:=ch) hch (λb o hL hb hc e n=>u.keep b o e n (λz=>(List.mem_cons.mp (I.pG b z)).elim hL hb) hc) (λb o _ _ hc e n=>u.any e n hc) (λb o hc e n=>u.free b o e n hc) (λb o hc e=>u.there b o e hc) u.tups u.iT u.iU (λm' hm=>by
  obtain⟨o',es',ep',ho',r'⟩:=hm
  rw[ho] at ho';cases ho'
  exact⟨_,es',ep',hL,r'⟩) hok hg
theorem Inv.turned {t':Nat}{it:Addr}(I:Inv X pins σ H s)(k:∀b o,b≠it->s.heap.get? b=some o->h'.get? b=some o)(hn:H it=none)(hL:it≠X.env.locals)
 (h1:it∈X.ex\/X.s₀.heap.objs.size<=it) (h2:∀x c,X.env.cells.lookup x=some c->c≠it) (h3:∀p∈X.pn++pins,p.1≠it):Inv X pins σ H { s with heap:=h',toks:=t' }:=by
 have Rt:∀b u,H b=some u->b≠it:=λb u e z=>by rw[z,hn] at e;cases e
 refine I.step (g':=s.gens) (d':=s.drawn) (ch:=[it]) (λb hb=>?_) (λb o _ _ hc e _=>k b o (λz=>hc (by simp[z])) e) (λb o _ _ hc e _=>⟨o.slots,k b o (λz=>hc (by simp[z])) e⟩) (λ_ _ _ _ n=>n)
  (λb o hc e=>⟨o,k b o (λz=>hc (by simp[z])) e⟩) (λ_ _ e=>e) (λ_ _ _ e=>e) (λb ps e=>⟨#[],by rw[e];simp⟩) (λm hm=>?_) (λb u e=>?_) I.bare
 . have e:b=it:=by simpa using hb
   subst e
   exact⟨h1,hL,h2,h3⟩
 . obtain⟨o,es,ep,ho,r⟩:=hm
   exact⟨o,es,ep,k _ o (Ne.symm hL) ho,r⟩
 . refine(I.hok b u e).stay (λc v hc q=>k c v ?_ q) (λ_ q=>q) λ_ _ q=>q
   rcases hc with z|z
   . rw[z];exact Rt b u e
   . exact Rt c _ z
theorem Inv.tok (I:Inv X pins σ H s)(t:Nat):Inv X pins σ H { s with toks:=t }:=I.un (h':=s.heap) (t':=t) Un.refl I.hok
theorem Inv.kept {t':Nat}(I:Inv X pins σ H s)(k:∀b u,s.heap.get? b=some u->h'.get? b=some u):Inv X pins σ H { s with heap:=h',toks:=t' }:=I.un (Un.kept k) (I.hok.kept k)
theorem Inv.laid {a:Addr}{o:HO}{t':Nat}(I:Inv X pins σ H s)(k:∀b u,s.heap.get? b=some u->h'.get? b=some u)(hp:s.heap.objs.size<=a)(new:eG X.prog X.w (upd H a o) h' a o):
 Inv X pins σ (upd H a o) { s with heap:=h',toks:=t' }:=I.un (Un.laid k hp (I.hok.fresh hp)) (I.hok.laid k hp new)
theorem Inv.write {x e:Addr}{o:HO}{t':Nat}(I:Inv X pins σ H s)(mu:z7 (H x))(he:e=x\/H e=some (.own x))(k:∀b u,b≠e->s.heap.get? b=some u->h'.get? b=some u)(heo:∃u,h'.get? e=some u)
 (new:eG X.prog X.w (upd H x o) h' x o):Inv X pins σ (upd H x o) { s with heap:=h',toks:=t' }:=I.un (Un.write mu he k heo) (I.hok.write mu he k heo new)
theorem Inv.weak {σ':List (Option V)}(I:Inv X pins σ H s)(hl:σ'.length=σ.length)(w:∀(i:Nat) v,σ'[i]? =some (some v)->σ[i]? =some (some v)):Inv X pins σ' H s:=
 ⟨I.ok,I.os,I.bare,I.base,let⟨m,hn,hl'⟩:=I.loc;⟨m,hn,λi x v e1 e2 e3=>hl' i x v e1 (w i v e2) e3⟩,I.cell,I.free,I.gR,I.pin,I.hok,hl.trans I.len⟩
theorem Inv.pH {Ru:List (Addr × Obj)}(I:Inv X pins σ H s)(h:∀p∈Ru,s.heap.get? p.1=some p.2/\H p.1=none/\p.1≠X.env.locals/\p.1 ∉ X.fs/\∀v,p.2.data≠ .cell v):Inv X Ru σ H s:=
 ⟨I.ok,I.os,I.bare,I.base,I.loc,I.cell,I.free,I.gR,λp hp=>(List.mem_append.mp hp).elim (λz=>I.pin p (List.mem_append_left _ z)) (h p),I.hok,I.len⟩
theorem Fj {N:List Str}(hN:N.Nodup){i j:Nat}{x:Str}(a:N[i]? =some x)(b:N[j]? =some x):i=j:=by
 obtain⟨h1,e1⟩:=List.getElem?_eq_some_iff.mp a
 obtain⟨h2,e2⟩:=List.getElem?_eq_some_iff.mp b
 exact(List.getElem_inj hN).mp (e1.trans e2.symm)
theorem ab_ {M:Model}{A:Around}{E:Value->Shared->Prop}{i:Nat}{x:Str}{v:V}{u:Value}{Q:Unit->Shared->Prop}(I:Inv X pins σ H s)(hN:X.N.Nodup)(hi:X.N[i]? =some x)(hx:Loc X.env.scope x)(r:RelV v u)
 (h:∀s',Inv X pins (σ.set i (some v)) H s'->(∃a,Heap.SameBut a s.heap s'.heap/\(a=X.env.locals\/X.env.cells.lookup x=some a))->Q () s') (hf:X.fn x=true\/X.env.scope.names.lookup x=some .local:=by first|exact .inl rfl|exact .inr rfl|assumption):wpAny M A (storeName X.env x u) Q E s:=by
 obtain⟨m,hn,hl⟩:=id I.loc
 have hcls:(X.env.scope.kind == .class || (X.env.scope.kind == .module && X.env.locals != X.env.globals))=false:=by rw[I.ok.kind];rfl
 have Aa:i<σ.length:=by rw[I.len];exact(List.getElem?_eq_some_iff.mp hi).1
 have jW:=I.jW
 have tracked:∀{a:Addr} {h':Heap},(∃o,s.heap.get? a=some o/\H a=none)->Heap.SameBut a s.heap h'->cQ X.prog X.w H h':=λ{a h'} ha hs b ob e=>by
  obtain⟨_,_,hfree⟩:=ha
  refine(I.hok b ob e).stay (λc w' hc q=>(hs.2 c ?_).trans q) (λ_ q=>q) λ_ _ q=>q
  rintro rfl
  rcases hc with rfl|hc
  . rw[hfree] at e;cases e
  . rw[hfree] at hc;cases hc
 rcases hx with hk|hk
 . refine wpAny_storeName_local hk hn (λh' hn' hs=>?_) hcls
   obtain⟨oL,_,_,hoL,_⟩:=id hn
   refine h _ ⟨I.ok,I.os,I.bare,⟨λb o e n hb hx=>?_,λb o e n hb hx=>?_,I.base.free,λb o e hx=>?_,I.base.tups,I.base.iT,I.base.iU⟩,⟨_,hn',λj y v' e1 e2 e3=>?_⟩,λy c e=>?_,I.free,I.gR,λp hp=>?_,tracked ⟨oL,hoL,I.free⟩ hs,by simpa using I.len⟩ ⟨_,hs,.inl rfl⟩
   . exact(hs.2 b (Nat.ne_of_lt (Nat.lt_of_lt_of_le (Heap.lt_size e) I.ok.above))).trans (I.base.keep b o e n hb hx)
   . obtain⟨sl,e1⟩:=I.base.slot b o e n hb hx
     exact⟨sl,(hs.2 b (Nat.ne_of_lt (Nat.lt_of_lt_of_le (Heap.lt_size e) I.ok.above))).trans e1⟩
   . obtain⟨o',e1⟩:=I.base.there b o e hx
     exact⟨o',(hs.2 b (Nat.ne_of_lt (Nat.lt_of_lt_of_le (Heap.lt_size e) I.ok.above))).trans e1⟩
   . by_cases hj:j=i
     . subst hj
       rw[hi] at e1;cases e1
       rw[List.getElem?_set_self Aa] at e2
       cases e2
       exact⟨u,r,.inl ⟨hk,by simp⟩⟩
     . rw[List.getElem?_set_ne (Ne.symm hj)] at e2
       obtain⟨u',r',q⟩:=hl j y v' e1 e2 e3
       refine⟨u',r',?_⟩
       rcases q with⟨k,e⟩|⟨k,c,e,z⟩
       . refine .inl ⟨k,?_⟩
         have:y≠x:=λe=>hj (Fj hN e1 (e ▸ hi))
         simp[this,e]
       . exact .inr ⟨k,c,e,z.sameBut hs (jW y c e)⟩
   . obtain⟨w',z⟩:=I.cell y c e
     exact⟨w',z.sameBut hs (jW y c e)⟩
   . obtain⟨e,n,ne,nf,d⟩:=I.pin p hp
     exact⟨(hs.2 p.1 ne).trans e,n,ne,nf,d⟩
 . have hfn:X.fn x=true:=by
    rcases hf with z|z
    . exact z
    . rw[z] at hk;cases hk
   obtain⟨c,hc⟩:=I.ok.has x (.inl hk)
   obtain⟨w',z⟩:=I.cell x c hc
   refine wpAny_storeName_cell I.ok.kind hk hc z (λh' hc' hs=>?_)
   obtain⟨oc,hoc,acd⟩:=id z
   refine h { s with heap:=h' } ⟨I.ok,I.os,I.bare,⟨λb o e n hb hx=>?_,λb o e n hb hx=>?_,I.base.free,λb o e hx=>?_,I.base.tups,I.base.iT,I.base.iU⟩,⟨m,hn.sameBut hs (Ne.symm (jW x c hc)),λj y v' e1 e2 e3=>?_⟩,λy c' e=>?_,I.free,I.gR,λp hp=>?_,tracked ⟨oc,hoc,I.gR x c hc⟩ hs,by simpa using I.len⟩ ⟨c,hs,.inr hc⟩
   . exact(hs.2 b (Nat.ne_of_lt (Nat.lt_of_lt_of_le (Heap.lt_size e) (I.ok.cab x c hfn hc)))).trans (I.base.keep b o e n hb hx)
   . obtain⟨sl,e1⟩:=I.base.slot b o e n hb hx
     exact⟨sl,(hs.2 b (Nat.ne_of_lt (Nat.lt_of_lt_of_le (Heap.lt_size e) (I.ok.cab x c hfn hc)))).trans e1⟩
   . obtain⟨o',e1⟩:=I.base.there b o e hx
     exact⟨o',(hs.2 b (Nat.ne_of_lt (Nat.lt_of_lt_of_le (Heap.lt_size e) (I.ok.cab x c hfn hc)))).trans e1⟩
   . by_cases hj:j=i
     . subst hj
       rw[hi] at e1;cases e1
       rw[List.getElem?_set_self Aa] at e2
       cases e2
       exact⟨u,r,.inr ⟨.inl hk,c,hc,hc'⟩⟩
     . rw[List.getElem?_set_ne (Ne.symm hj)] at e2
       obtain⟨u',r',q⟩:=hl j y v' e1 e2 e3
       refine⟨u',r',?_⟩
       rcases q with q|⟨k,c',e,z'⟩
       . exact .inl q
       . refine .inr ⟨k,c',e,z'.sameBut hs ?_⟩
         rintro rfl
         exact hj (Fj hN e1 (I.ok.inj _ _ _ e hc ▸ hi))
   . by_cases hcc:c'=c
     . subst hcc;exact⟨_,hc'⟩
     . obtain⟨w2,z2⟩:=I.cell y c' e
       exact⟨w2,z2.sameBut hs hcc⟩
   . obtain⟨e,n,ne,nf,d⟩:=I.pin p hp
     refine⟨(hs.2 p.1 ?_).trans e,n,ne,nf,d⟩
     intro q
     rw[q,hoc] at e
     have q':oc=p.2:=Option.some.inj e
     exact d w' (by rw[<-q'];exact acd)
theorem wC {M:Model}{A:Around}{E:Value->Shared->Prop}{i:Nat}{x:Str}{v:V}{u:Value}{Q:Unit->Shared->Prop}(I:Inv X pins σ H s)(hN:X.N.Nodup)(hi:X.N[i]? =some x)(hx:Loc X.env.scope x)(r:RelV v u)
 (h:∀s',Inv X pins (σ.set i (some v)) H s'->Q () s') (hf:X.fn x=true\/X.env.scope.names.lookup x=some .local:=by first|exact .inl rfl|exact .inr rfl|assumption):wpAny M A (storeName X.env x u) Q E s:=
 ab_ I hN hi hx r (λs' I' _=>h s' I') hf
theorem Inv.call' {s':Shared}{ch:List Addr}(I:Inv X pins σ H s)(ho:s'.os=s.os)(u:Un (frs X.stack) ch H H' s.heap s'.heap)(hok:cQ X.prog X.w H' s'.heap)(hg:AllBare s'.gens)
 (hch:∀b∈ch,(b∈X.ex\/X.s₀.heap.objs.size<=b)/\b≠X.env.locals/\(∀x c,X.env.cells.lookup x=some c->c≠b)/\∀p∈X.pn++pins,p.1≠b):Inv X pins σ H' s':=by
 obtain⟨h',g',d',t',o'⟩:=s'
 have e:o'=s.os:=ho
 subst e
 exact I.call (g':=g') (t':=t') (d':=d') u hok hg hch
end
noncomputable abbrev XK:=Value->Option Addr->Hp->Prop
noncomputable abbrev St:=List (Option V)
noncomputable abbrev VK:=V->Hp->Prop
noncomputable abbrev TE:=St->Hp->VK->Prop
noncomputable abbrev TT:=St->Hp->(Bool->Hp->Prop)->Prop
noncomputable abbrev TA:=St->Hp->(List V->Hp->Prop)->Prop
structure Ends where
 nx:St->Hp->Prop
 rt:VK
 bk:St->Hp->Prop:=λ_ _=>False
 ct:St->Hp->Prop:=λ_ _=>False
noncomputable abbrev TS:=Ends->St->Hp->Prop
noncomputable def EP (X:Cx) (pins:List (Addr × Obj)) (σ:St) (Q:VK) (u:Value) (s':Shared):Prop:=∃v H',Inv X pins σ H' s'/\RelV v u/\Q v H'
noncomputable def TP (X:Cx) (pins:List (Addr × Obj)) (σ:St) (Q:Bool->Hp->Prop) (b:Bool) (s':Shared):Prop:=∃H',Inv X pins σ H' s'/\Q b H'
noncomputable def AP (X:Cx) (pins:List (Addr × Obj)) (σ:St) (Q:List V->Hp->Prop) (us:List Value) (s':Shared):Prop:=∃vs H',Inv X pins σ H' s'/\Vals vs us/\Q vs H'
noncomputable def SP (X:Cx) (pins:List (Addr × Obj)) (D:Ends) (f:Flow) (s':Shared):Prop:=
 match f with
 | .next=>∃σ' H',Inv X pins σ' H' s'/\D.nx σ' H'
 | .brk=>∃σ' H',Inv X pins σ' H' s'/\D.bk σ' H'
 | .cont=>∃σ' H',Inv X pins σ' H' s'/\D.ct σ' H'
 | .ret u=>∃v σ' H',Inv X pins σ' H' s'/\RelV v u/\D.rt v H'
noncomputable def PE (X:Cx) (e:Expr) (t:TE):Prop:=
 ∀(pins:List (Addr × Obj)) (s:Shared) (σ:St) (H:Hp) (Q:VK),Inv X pins σ H s->t σ H Q->wpAny (model X.prog X.w) X.A (eval e X.env) (EP X pins σ Q) X.xe s
noncomputable def PT (X:Cx) (e:Expr) (t:TT):Prop:=
 ∀(pins:List (Addr × Obj)) (s:Shared) (σ:St) (H:Hp) (Q:Bool->Hp->Prop),Inv X pins σ H s->t σ H Q->wpAny (model X.prog X.w) X.A (isTrue e X.env (eval e X.env)) (TP X pins σ Q) X.xe s
noncomputable def PW (X:Cx) (e:Expr) (t:TT):Prop:=
 ∀(whole:Sem Value) (pins:List (Addr × Obj)) (s:Shared) (σ:St) (H:Hp) (Q:Bool->Hp->Prop),Inv X pins σ H s->t σ H Q->wpAny (model X.prog X.w) X.A (isTrue e X.env whole) (TP X pins σ Q) X.xe s
theorem PW.pt {X:Cx}{e:Expr}{t:TT}(h:PW X e t):PT X e t:=h _
noncomputable def PA (X:Cx) (es:List Expr) (t:TA):Prop:=
 ∀(pos:Pos) (pins:List (Addr × Obj)) (s:Shared) (σ:St) (H:Hp) (Q:List V->Hp->Prop),Inv X pins σ H s->t σ H Q->wpAny (model X.prog X.w) X.A (spliced (backTo pos (starEach es X.env))) (AP X pins σ Q) X.xe s
noncomputable def PS (X:Cx) (st:Stmt) (t:TS):Prop:=
 ∀(pins:List (Addr × Obj)) (s:Shared) (σ:St) (H:Hp) (D:Ends),Inv X pins σ H s->t D σ H->wpAny (model X.prog X.w) X.A (exec st X.env) (SP X pins D) X.xe s
noncomputable def gU (X:Cx) (st:List Stmt) (t:TS):Prop:=
 ∀(pins:List (Addr × Obj)) (s:Shared) (σ:St) (H:Hp) (D:Ends),Inv X pins σ H s->t D σ H->wpAny (model X.prog X.w) X.A (execs st X.env) (SP X pins D) X.xe s
theorem aP {α:Type}{t:Sem α}{Q Q':α->Shared->Prop}{M:Model}{A:Around}{E:Value->Shared->Prop}{s:Shared}(h:wpAny M A t Q E s)(hQ:∀a s,Q a s->Q' a s):wpAny M A t Q' E s:=wpAny_mono h hQ λ_ _ x=>x
section
variable {X:Cx}
noncomputable def jo (i:Nat):TE:=λσ H Q=>∃v,σ[i]? =some (some v)/\Q v H
noncomputable def tC (v:V):TE:=λ_ H Q=>Q v H
theorem ace {i:Nat}{x:Str}{pos:Pos}(hN:X.N[i]? =some x)(hv:z9 X.env.scope x)(hd:(x == ("__debug__":Str))=false:=by decide)(hcd:(x == ("__classdict__":Str))=false:=by decide):PE X (.Name x pos) (jo i):=by
 intro pins s σ H Q I h
 obtain⟨v,e,h⟩:=h
 obtain⟨m,hn,hl⟩:=I.loc
 obtain⟨u,r,l⟩:=hl i x v hN e hv
 have fin:EP X pins σ Q u s:=⟨v,H,I,r,h⟩
 rcases l with⟨hk,hm⟩|⟨hk,c,hc,hcell⟩
 . exact wpAny_Name (wpAny_loadName_local I.ok.kind hk hn hm fin) hd
 . rcases hk with hk|hk
   . exact wpAny_Name (wpAny_loadName_cell I.ok.kind hk hc hcell fin) hd
   . exact wpAny_Name (wpAny_loadName_free I.ok.kind hk hc hcell fin hcd) hd
theorem au {i j pos}:PE X (.Constant (.int i) j pos) (tC (.int i)):=λ_ _ _ H _ I h=>wpAny_Constant_int ⟨.int i,H,I.tok _,⟨_,rfl⟩,h⟩
theorem rG {b j pos}:PE X (.Constant (.bool b) j pos) (tC (.bl b)):=λ_ _ _ H _ I h=>Constant_bool ⟨.bl b,H,I,rfl,h⟩
theorem acf {j pos}:PE X (.Constant .none j pos) (tC .non):=λ_ _ _ H _ I h=>Constant_none ⟨.non,H,I,rfl,h⟩
theorem aD {x j pos}:PE X (.Constant (.str x) j pos) (tC (.str x)):=λ_ _ _ H _ I h=>Calls.Constant_str ⟨.str x,H,I.tok _,⟨_,rfl⟩,h⟩
noncomputable def Gl (X:Cx) (x:Str):Prop:=X.env.kindOf x=some .globalImplicit
theorem rH {E:Value->Shared->Prop}{pins:List (Addr × Obj)}{s:Shared}{σ:St}{H:Hp}{x:Str}{u:Value}{pos:Pos}{Q:Value->Shared->Prop}(I:Inv X pins σ H s)(hg:Gl X x)(hm:X.mg x=some u)(h:Q u s)
 (hd:(x == ("__debug__":Str))=false:=by decide):wpAny (model X.prog X.w) X.A (eval (.Name x pos) X.env) Q E s:=
 Calls.Name_function_global I.ok.kind hg (Calls.loadGlobal_global (by rw[I.ok.glob];exact I.mod.glob.keeps I.bk) hm h) hd
theorem pI {E:Value->Shared->Prop}{pins:List (Addr × Obj)}{s:Shared}{σ:St}{H:Hp}{x:Str}{u:Value}{pos:Pos}{Q:Value->Shared->Prop}(I:Inv X pins σ H s)(hg:Gl X x)(hm:X.mg x=none)(hv:bootBuiltins x=some u)(h:Q u s)
 (hn:x≠"__name__":=by decide) (hd:(x == ("__debug__":Str))=false:=by decide):wpAny (model X.prog X.w) X.A (eval (.Name x pos) X.env) Q E s:=by
 obtain⟨mb,h1,h2⟩:=I.mod.blt
 exact Calls.Name_function_global I.ok.kind hg (Calls.loadGlobal_builtin (by rw[I.ok.glob];exact I.mod.glob.keeps I.bk) hm (by rw[I.ok.blt];exact h1.keeps I.bk) ((h2 x hn).trans hv) h) hd
theorem kZ {x:Str}{v:V}{u:Value}{pos:Pos}(hg:Gl X x)(hm:X.mg x=some u)(r:RelV v u)(hd:(x == ("__debug__":Str))=false:=by decide):PE X (.Name x pos) (tC v):=
 λ_ _ _ H _ I h=>rH I hg hm ⟨v,H,I,r,h⟩ hd
variable {a b:Expr}{ta tb:TE}{pos:Pos}
noncomputable def tB (t:TE):TT:=λσ H Q=>t σ H λx H1=>∃c,x=.bl c/\Q c H1
theorem iV {e:Expr}{t:TE}(h:PE X e t)(he:∀whole,isTrue e X.env whole=(do let v <-whole;standAt e.pos;holding [v] (truthy v)):=by intro _;rfl):PT X e (tB t):=by
 intro pins s σ H Q I hw
 refine isTrue_plain (aP (h pins s σ H _ I hw) λv s1 ⟨x,H1,I1,r1,q1⟩=>?_) (he _)
 obtain⟨d,rfl,q⟩:=q1
 cases r1
 exact wpAny_truthy_bool ⟨H1,I1,q⟩
variable {tA Ab:TT}{rest:List Expr}
noncomputable def acg (t u:TT):TT:=λσ H Q=>t σ H λc H1=>if c=true then u σ H1 Q else Q false H1
noncomputable def tOr (t u:TT):TT:=λσ H Q=>t σ H λc H1=>if c=true then Q true H1 else u σ H1 Q
noncomputable def aci (t:TT):TT:=λσ H Q=>t σ H λc H1=>Q (!c) H1
theorem oA (ha:PT X a tA):PW X (.BoolOp .And [a] pos) tA:=by
 intro wh pins s σ H Q I h
 refine isTrue_and (aP (ha pins s σ H Q I h) λc s1 e=>?_)
 cases c with
 |true=>exact isTrue_and_nil e
 |false=>exact e
theorem rJ (ha:PT X a tA):PW X (.BoolOp .Or [a] pos) tA:=by
 intro wh pins s σ H Q I h
 refine isTrue_or (aP (ha pins s σ H Q I h) λc s1 e=>?_)
 cases c with
 |false=>exact isTrue_or_nil e
 |true=>exact e
theorem lO (ha:PT X a tA)(hb:PW X (.BoolOp .And (b::rest) pos) Ab):PW X (.BoolOp .And (a::b::rest) pos) (acg tA Ab):=by
 intro wh pins s σ H Q I h
 refine isTrue_and (aP (ha pins s σ H _ I h) λc s1 ⟨H1,I1,q1⟩=>?_)
 cases c with
 |true=>exact hb wh pins s1 σ H1 Q I1 q1
 |false=>exact⟨H1,I1,q1⟩
theorem pJ (ha:PT X a tA)(hb:PW X (.BoolOp .Or (b::rest) pos) Ab):PW X (.BoolOp .Or (a::b::rest) pos) (tOr tA Ab):=by
 intro wh pins s σ H Q I h
 refine isTrue_or (aP (ha pins s σ H _ I h) λc s1 ⟨H1,I1,q1⟩=>?_)
 cases c with
 |true=>exact⟨H1,I1,q1⟩
 |false=>exact hb wh pins s1 σ H1 Q I1 q1
theorem oE (ha:PT X a tA):PT X (.UnaryOp .Not a pos) (aci tA):=by
 intro pins s σ H Q I h
 exact isTrue_not (ha pins s σ H (λc H1=>Q (!c) H1) I h)
noncomputable def acj (ta tb:TE):TE:=λσ H Q=>ta σ H λx H1=>∃c,x=.bl c/\if c=true then tb σ H1 Q else Q (.bl false) H1
noncomputable def acn (ta tb:TE):TE:=λσ H Q=>ta σ H λx H1=>∃c,x=.bl c/\if c=true then Q (.bl true) H1 else tb σ H1 Q
theorem Rv {op}{t:TE}(h:PE X a t):PE X (.BoolOp op [a] pos) t:=λpins s σ H Q I hw=>BoolOp_one (h pins s σ H Q I hw)
theorem aco (ha:PE X a ta)(hb:PE X (.BoolOp .And (b::rest) pos) tb):PE X (.BoolOp .And (a::b::rest) pos) (acj ta tb):=by
 intro pins s σ H Q I h
 refine BoolOp_and (aP (ha pins s σ H _ I h) λv s1 ⟨x,H1,I1,r1,q1⟩=>?_)
 obtain⟨c,rfl,q1⟩:=q1
 cases r1
 refine wpAny_truthy_bool ?_
 cases c with
 |true=>exact hb pins s1 σ H1 Q I1 q1
 |false=>exact⟨.bl false,H1,I1,rfl,q1⟩
theorem acp (ha:PE X a ta)(hb:PE X (.BoolOp .Or (b::rest) pos) tb):PE X (.BoolOp .Or (a::b::rest) pos) (acn ta tb):=by
 intro pins s σ H Q I h
 refine BoolOp_or (aP (ha pins s σ H _ I h) λv s1 ⟨x,H1,I1,r1,q1⟩=>?_)
 obtain⟨c,rfl,q1⟩:=q1
 cases r1
 refine wpAny_truthy_bool ?_
 cases c with
 |false=>exact hb pins s1 σ H1 Q I1 q1
 |true=>exact⟨.bl true,H1,I1,rfl,q1⟩
noncomputable def tIf (t:TT) (ta tb:TE):TE:=λσ H Q=>t σ H λc H1=>if c=true then ta σ H1 Q else tb σ H1 Q
theorem Rx {c:Expr}(hc:PT X c tA)(ha:PE X a ta)(hb:PE X b tb):PE X (.IfExp c a b pos) (tIf tA ta tb):=by
 intro pins s σ H Q I h
 refine wpAny_IfExp (aP (hc pins s σ H _ I h) λd s1 ⟨H1,I1,q1⟩=>?_)
 cases d with
 |true=>exact ha pins s1 σ H1 Q I1 q1
 |false=>exact hb pins s1 σ H1 Q I1 q1
end
noncomputable def aL (K:W.Frag) (H:Hp) (a:Addr) (xs:List V):Prop:=
 Rd H a (.lst xs)\/
  ∃(o:Obj) (its:Array Value) (n:Nat),K.lookup a=some o/\o.cls=.type "list"/\o.dict=none/\o.data=.seq its n/\its.size<=sizeLine/\Vals xs its.toList
noncomputable def aM (K:W.Frag) (H:Hp) (a:Addr) (xs:List V):Prop:=
 Rd H a (.tup xs)\/
  ∃(o:Obj) (its:Array Value) (n:Nat),K.lookup a=some o/\o.cls=.type "tuple"/\o.data=.seq its n/\its.size<=sizeLine/\Vals xs its.toList
noncomputable def Ac:Value->Option V
 | .none=>some .non
 | .bool b=>some (.bl b)
 | .int i _=>some (.int i)
 | .str x _=>some (.str x)
 | .bytes b _=>some (.kW b)
 | .float b _=>some (.flt b)
 | .ref a=>some (.ref a)
 | .type n=>some (.ty n)
 |_=>none
theorem RelV.abs {x:V}{u:Value}(r:RelV x u):Ac u=some x:=by
 cases x with
 |non=>cases r;rfl
 |bl _=>cases r;rfl
 |int _=>obtain⟨t,rfl⟩:=r;rfl
 |str _=>obtain⟨t,rfl⟩:=r;rfl
 |kW _=>obtain⟨t,rfl⟩:=r;rfl
 |flt _=>obtain⟨t,rfl⟩:=r;rfl
 |ref _=>cases r;rfl
 |ty _=>cases r;rfl
theorem RelV.inj {x y:V}{u:Value}(r:RelV x u)(q:RelV y u):x=y:=Option.some.inj (r.abs.symm.trans q.abs)
theorem Vals.inj:∀{xs ys:List V}{us:List Value},Vals xs us->Vals ys us->xs=ys
 |_,_,_,.nil,.nil=>rfl
 |_,_,_,.cons r t,.cons r' t'=>by rw[r.inj r',Vals.inj t t']
section
variable {X:Cx}{pins:List (Addr × Obj)}{σ:St}{H:Hp}{s:Shared}{a:Addr}{xs ys:List V}
theorem aL.of {K:W.Frag}(h:H a=some (.lst xs)):aL K H a xs:=.inl (.inl h)
theorem aM.of {K:W.Frag}(h:H a=some (.tup xs)):aM K H a xs:=.inl (.inl h)
theorem Inv.list (I:Inv X pins σ H s)(h:aL X.K H a xs):∃its:List Value,Vals xs its/\PlainL s.heap a its.toArray/\xs.length<=sizeLine:=by
 rcases h with h|⟨o,its,n,hk,hc,hd,hs,hz,r⟩
 . obtain⟨z,its,n,r,e⟩:=h.ok I.hok
   exact⟨its,r,⟨_,n,e,rfl,rfl,rfl⟩,z⟩
 . refine⟨its.toList,r,⟨o,n,I.eH a o hk,hc,hd,by simpa using hs⟩,?_⟩
   have e:=r.length
   simp only[Array.length_toList] at e
   omega
theorem Inv.tuple (I:Inv X pins σ H s)(h:aM X.K H a xs):∃its:List Value,Vals xs its/\IsTup s.heap a its.toArray/\xs.length<=sizeLine:=by
 rcases h with h|⟨o,its,n,hk,hc,hs,hz,r⟩
 . obtain⟨z,its,r,p⟩:=h.ok I.hok
   exact⟨its,r,p,z⟩
 . refine⟨its.toList,r,⟨o,I.eH a o hk,hc,n,by simpa using hs⟩,?_⟩
   have e:=r.length
   simp only[Array.length_toList] at e
   omega
theorem Inv.Ry (I:Inv X pins σ H s)(h:aL X.K H a xs)(h':aL X.K H a ys):xs=ys:=by
 obtain⟨its,r,⟨o,n,e,_,_,d⟩,_⟩:=I.list h
 obtain⟨its',r',⟨o',n',e',_,_,d'⟩,_⟩:=I.list h'
 rw[e] at e';cases e'
 rw[d] at d'
 injection d' with d1 _
 have:its=its':=by simpa using congrArg Array.toList d1
 subst this
 exact r.inj r'
theorem Inv.acr (I:Inv X pins σ H s)(h:aM X.K H a xs)(h':aM X.K H a ys):xs=ys:=by
 obtain⟨its,r,⟨o,e,_,n,d⟩,_⟩:=I.tuple h
 obtain⟨its',r',⟨o',e',_,n',d'⟩,_⟩:=I.tuple h'
 rw[e] at e';cases e'
 rw[d] at d'
 injection d' with d1 _
 have:its=its':=by simpa using congrArg Array.toList d1
 subst this
 exact r.inj r'
end
noncomputable abbrev Cx.wish (X:Cx) (E:Value->Shared->Prop):Cx:={ X with xe:=E }
noncomputable abbrev Cx.ur (X:Cx):Cx:=X.wish λ_ _=>False
theorem Cx.Ok.wish {X:Cx}(ok:X.Ok)(E:Value->Shared->Prop):(X.wish E).Ok:=
 ⟨ok.mod,ok.kind,ok.glob,ok.blt,ok.above,ok.inj,ok.has,ok.cab,ok.hd,ok.frames,ok.stk,ok.Fi,ok.bs,ok.jU,ok.uo,ok.wz,ok.jV,ok.pF⟩
theorem Cx.Ok.m_ {X:Cx}{E:Value->Shared->Prop}(ok:(X.wish E).Ok):X.Ok:=
 ⟨ok.mod,ok.kind,ok.glob,ok.blt,ok.above,ok.inj,ok.has,ok.cab,ok.hd,ok.frames,ok.stk,ok.Fi,ok.bs,ok.jU,ok.uo,ok.wz,ok.jV,ok.pF⟩
section
variable {X:Cx}{pins:List (Addr × Obj)}{σ:St}{H:Hp}{s:Shared}{E:Value->Shared->Prop}
theorem Inv.wish (I:Inv X pins σ H s)(E:Value->Shared->Prop):Inv (X.wish E) pins σ H s:=⟨I.ok.wish E,I.os,I.bare,I.base,I.loc,I.cell,I.free,I.gR,I.pin,I.hok,I.len⟩
theorem Inv.m_ (I:Inv (X.wish E) pins σ H s):Inv X pins σ H s:=⟨I.ok.m_,I.os,I.bare,I.base,I.loc,I.cell,I.free,I.gR,I.pin,I.hok,I.len⟩
theorem SP.m_ {D:Ends}{f:Flow}{s':Shared}(h:SP (X.wish E) pins D f s'):SP X pins D f s':=by
 cases f with
 |next=>obtain⟨σ',H',I,q⟩:=h;exact⟨σ',H',I.m_,q⟩
 |brk=>obtain⟨σ',H',I,q⟩:=h;exact⟨σ',H',I.m_,q⟩
 |cont=>obtain⟨σ',H',I,q⟩:=h;exact⟨σ',H',I.m_,q⟩
 |ret u=>obtain⟨v,σ',H',I,r,q⟩:=h;exact⟨v,σ',H',I.m_,r,q⟩
theorem gU.ur {st:List Stmt}{t:TS}(h:gU X.ur st t):gU X st t:=λpins s σ H D I hw=>
 wpAny_mono (h pins s σ H D (I.wish _) hw) (λ_ _ q=>q.m_) λ_ _ z=>False.elim z
end
section
variable {X:Cx}{st:Stmt}{rest:List Stmt}{t u:TS}{e:Expr}{te:TE}{pos:Pos}
noncomputable def Fl:TS:=λD σ H=>D.nx σ H
noncomputable def Fo (t u:TS):TS:=λD σ H=>t { D with nx:=u D } σ H
theorem bG:gU X [] Fl:=λ_ _ σ H _ I h=>wpAny_execs_nil ⟨σ,H,I,h⟩
theorem aC (h1:PS X st t)(h2:gU X rest u):gU X (st::rest) (Fo t u):=by
 intro pins s σ H D I h
 refine wpAny_execs_cons (aP (h1 pins s σ H { D with nx:=u D } I h) λf s1 q=>?_)
 cases f with
 |next=>
  obtain⟨σ',H',I',q⟩:=q
  exact h2 pins s1 σ' H' D I' q
 |ret v=>exact q
 |brk=>exact q
 |cont=>exact q
theorem aH (h1:PS X st t):gU X [st] t:=by
 intro pins s σ H D I h
 refine wpAny_execs_cons (aP (h1 pins s σ H D I h) λf s1 q=>?_)
 cases f with
 |next=>exact wpAny_execs_nil q
 |ret v=>exact q
 |brk=>exact q
 |cont=>exact q
theorem Inv.quiet {pins:List (Addr × Obj)}{σ:St}{H:Hp}{s:Shared}(I:Inv X pins σ H s):interactive X.env=false:=by simp[interactive,I.ok.kind]
noncomputable def acs (te:TE):TS:=λD σ H=>te σ H λ_ H1=>D.nx σ H1
theorem gW (he:PE X e te)(hs:swapsWith e none pos.line X.env=pure false:=by rfl):PS X (.Expr e pos) (acs te):=by
 intro pins s σ H D I h
 exact wpAny_Expr_any (aP (he pins s σ H _ I h) λv s1 ⟨x,H1,I1,r1,q1⟩=>⟨σ,H1,I1,q1⟩) I.quiet hs
noncomputable def Rz (te:TE):TS:=λD σ H=>te σ H D.rt
theorem aW (he:PE X e te):PS X (.Return (some e) pos) (Rz te):=by
 intro pins s σ H D I h
 exact wpAny_Return_some (aP (he pins s σ H _ I h) λv s1 ⟨x,H1,I1,r1,q1⟩=>⟨x,σ,H1,I1,r1,q1⟩)
noncomputable def pK (c:TT) (t u:TS):TS:=λD σ H=>c σ H λb H1=>if b=true then t D σ H1 else u D σ H1
theorem bF {c:Expr}{a b:List Stmt}{tc:TT}(hc:PT X c tc)(ha:gU X a t)(hb:gU X b u):PS X (.If c a b pos) (pK tc t u):=by
 intro pins s σ H D I h
 refine wpAny_If (aP (hc pins s σ H _ I h) λd s1 ⟨H1,I1,q1⟩=>?_)
 cases d with
 |true=>exact ha pins s1 σ H1 D I1 q1
 |false=>exact hb pins s1 σ H1 D I1 q1
noncomputable def acu:TS:=λ_ _ _=>False
theorem acv {sts:List Stmt}:gU X sts acu:=λ_ _ _ _ _ _ h=>h.elim
end
noncomputable abbrev TG:=V->St->Hp->(St->Hp->Prop)->Prop
noncomputable abbrev oF:=List V->St->Hp->(St->Hp->Prop)->Prop
noncomputable def PG (X:Cx) (target:Expr) (t:TG):Prop:=
 ∀(pins:List (Addr × Obj)) (s:Shared) (σ:St) (H:Hp) (v:V) (u:Value) (Q:St->Hp->Prop),Inv X pins σ H s->RelV v u->t v σ H Q->
  wpAny (model X.prog X.w) X.A (assign target X.env u) (λ_ s'=>∃σ' H',Inv X pins σ' H' s'/\Q σ' H') X.xe s
noncomputable def wD (X:Cx) (ts:List Expr) (t:oF):Prop:=
 ∀(pins:List (Addr × Obj)) (s:Shared) (σ:St) (H:Hp) (vs:List V) (us:List Value) (Q:St->Hp->Prop),Inv X pins σ H s->Vals vs us->t vs σ H Q->
  wpAny (model X.prog X.w) X.A (assignInOrder ((assignEach ts X.env).map (·.2)) us) (λ_ s'=>∃σ' H',Inv X pins σ' H' s'/\Q σ' H') X.xe s
noncomputable abbrev Fp:=V->V->V->Hp->(Hp->Prop)->Prop
noncomputable def RB (X:Cx) (t:Fp):Prop:=
 ∀(pins:List (Addr × Obj)) (s:Shared) (σ:St) (H:Hp) (o i v:V) (ov iv u:Value) (Q:Hp->Prop),Inv X pins σ H s->RelV o ov->RelV i iv->RelV v u->t o i v H Q->
  wpAny (model X.prog X.w) X.A (setItem ov iv u) (λ_ s'=>∃H',Inv X pins σ H' s'/\Q H') X.xe s
noncomputable abbrev Ad:=V->V->Hp->VK->Prop
noncomputable def RJ (X:Cx) (op:Operator) (t:Ad):Prop:=
 ∀(pins:List (Addr × Obj)) (s:Shared) (σ:St) (H:Hp) (x y:V) (v u:Value) (Q:VK),Inv X pins σ H s->RelV x v->RelV y u->t x y H Q->
  wpAny (model X.prog X.w) X.A (inplaceOp op v u) (EP X pins σ Q) X.xe s
section
variable {X:Cx}{pos:Pos}
noncomputable def gA (i:Nat):TG:=λv σ H Q=>Q (σ.set i (some v)) H
theorem dw {i:Nat}{x:Str}(hN:X.N.Nodup)(hi:X.N[i]? =some x)(hx:Loc X.env.scope x)(hf:X.fn x=true\/X.env.scope.names.lookup x=some .local:=by first|exact .inl rfl|exact .inr rfl|assumption):PG X (.Name x pos) (gA i):=by
 intro pins s σ H v u Q I r h
 exact wpAny_assign_Name (wC I hN hi hx r (λs' I'=>⟨_,H,I',h⟩) hf)
noncomputable def RL:oF:=λvs σ H Q=>vs=[]/\Q σ H
noncomputable def Fq (t:TG) (u:oF):oF:=λvs σ H Q=>∃v r,vs=v::r/\t v σ H λσ' H'=>u r σ' H' Q
theorem ni:wD X [] RL:=by
 intro pins s σ H vs us Q I r h
 obtain⟨e,h⟩:=h
 subst e
 cases r
 exact assignInOrder_nil ⟨σ,H,I,h⟩
theorem fX {e:Expr}{es:List Expr}{t:TG}{u:oF}(h1:PG X e t)(h2:wD X es u)
 (hs:(assignEach (e::es) X.env).map (·.2)=assign e X.env::(assignEach es X.env).map (·.2):=by rfl):wD X (e::es) (Fq t u):=by
 intro pins s σ H vs us Q I r h
 obtain⟨v,vr,e1,h⟩:=h
 subst e1
 cases r with
 |cons r rr=>
  rw[hs]
  refine assignInOrder_cons (aP (h1 pins s σ H _ _ _ I r h) λ_ s1 ⟨σ1,H1,I1,q1⟩=>?_)
  exact h2 pins s1 σ1 H1 _ _ Q I1 rr q1
noncomputable def RM (K:W.Frag) (n:Nat) (t:oF):TG:=λv σ H Q=>∃a xs,v=.ref a/\aM K H a xs/\xs.length=n/\t xs σ H Q
theorem rK {es:List Expr}{k:Nat}{t:oF}{n:Nat}(hc:X.calm=true)(h:wD X es t)
 (hn:(assignEach es X.env).length=n:=by rfl) (hst:(assignEach es X.env).findIdx? (·.1)=none:=by rfl):PG X (.Tuple es k pos) (RM X.K n t):=by
 intro pins s σ H v u Q I r hw
 obtain⟨a,xs,e1,hq,hl,hw⟩:=hw
 subst e1
 cases r
 obtain⟨its,rv,ht,hz⟩:=I.tuple hq
 refine assign_Tuple_tuple (I.ok.hd hc) ht (by simp[hn,<-hl,rv.length]) hst λh' hx=>?_
 have I1:Inv X pins σ H { s with heap:=h' }:=I.kept (t':=s.toks) λb o e=>hx b o (Nat.ne_of_lt (Heap.lt_size e)) e
 exact h pins _ σ H xs _ Q I1 (by simpa using rv) hw
noncomputable def acw (to ti:TE) (t:Fp):TG:=λv σ H Q=>to σ H λo H1=>ti σ H1 λi H2=>t o i v H2 λH3=>Q σ H3
theorem acy {o i:Expr}{to ti:TE}{t:Fp}(ho:PE X o to)(hi:PE X i ti)(hs:RB X t)
 (ha:∀v,assign (.Subscript o i pos) X.env v=(do
   let ov <-holding [v] (eval o X.env)
   let iv <-holding [v,ov] (eval i X.env)
   standAt pos
   holding [v,ov,iv] (setItem ov iv v)
   release [v,ov,iv] []):=by intro _;rfl):PG X (.Subscript o i pos) (acw to ti t):=by
 intro pins s σ H v u Q I r h
 rw[ha]
 refine wpAny_bind (wpAny_holding (aP (ho pins s σ H _ I h) λov s1 ⟨x,H1,I1,r1,q1⟩=>?_))
 refine wpAny_bind (wpAny_holding (aP (hi pins s1 σ H1 _ I1 q1) λiv s2 ⟨y,H2,I2,r2,q2⟩=>?_))
 refine wpAny_bind (wpAny_standAt (wpAny_bind (wpAny_holding (aP (hs pins s2 σ H2 x y v ov iv u _ I2 r1 r2 r q2) λ_ s3 ⟨H3,I3,q3⟩=>?_))))
 exact wpAny_release ⟨σ,H3,I3,q3⟩
noncomputable def nj (te:TE) (g:TG):TS:=λD σ H=>te σ H λx H1=>g x σ H1 D.nx
theorem uw {tg e:Expr}{te:TE}{g:TG}(he:PE X e te)(hg:PG X tg g)(hs:swapsWithSole [tg] e pos.line X.env=pure false:=by rfl)(hw:swappedStores [tg] e X.env=pure none:=by rfl)
 (h1:(assignEach [tg] X.env).map (·.2)=[assign tg X.env]:=by rfl):PS X (.Assign [tg] e pos) (nj te g):=by
 intro pins s σ H D I h
 refine wpAny_Assign_stores (aP (he pins s σ H _ I h) λv s1 ⟨x,H1,I1,r1,q1⟩=>?_) hs hw
 rw[h1]
 exact aP (hg pins s1 σ H1 x v _ I1 r1 q1) λ_ s2 q=>q
theorem aQ {i:Nat}{x:Str}{e:Expr}{te:TE}{pos':Pos}(hN:X.N.Nodup)(hi:X.N[i]? =some x)(hx:Loc X.env.scope x)(he:PE X e te)(hs:swapsWith e (some (.Name x pos')) pos.line X.env=pure false:=by rfl)(hf:X.fn x=true\/X.env.scope.names.lookup x=some .local:=by first|exact .inl rfl|exact .inr rfl|assumption):
 PS X (.Assign [.Name x pos'] e pos) (nj te (gA i)):=by
 intro pins s σ H D I h
 refine wpAny_Assign_Name (aP (he pins s σ H _ I h) λv s1 ⟨y,H1,I1,r1,q1⟩=>?_) hs
 exact wC I1 hN hi hx r1 (λs2 I2=>⟨_,H1,I2,q1⟩) hf
noncomputable def acz (i:Nat) (te:TE) (ti:Ad):TS:=λD σ H=>∃x,σ[i]? =some (some x)/\te σ H λy H1=>ti x y H1 λz H2=>D.nx (σ.set i (some z)) H2
theorem Ft {i:Nat}{x:Str}{e:Expr}{te:TE}{op:Operator}{ti:Ad}{pos':Pos}(hN:X.N.Nodup)(hi:X.N[i]? =some x)(hx:Loc X.env.scope x)(he:PE X e te)(ho:RJ X op ti)(hf:X.fn x=true\/X.env.scope.names.lookup x=some .local:=by first|exact .inl rfl|exact .inr rfl|assumption):
 PS X (.AugAssign (.Name x pos') op e pos) (acz i te ti):=by
 intro pins s σ H D I h
 obtain⟨v,e1,h⟩:=h
 obtain⟨m,hn,hl⟩:=I.loc
 have vis:z9 X.env.scope x:=by rcases hx with k|k;exact .inl k;exact .inr (.inl k)
 obtain⟨u,r,l⟩:=hl i x v hi e1 vis
 refine wpAny_AugAssign_Name ?_
 have go:wpAny (model X.prog X.w) X.A (eval e X.env) (λw s₂=>wpAny (model X.prog X.w) X.A (inplaceOp op u w) (λr s₃=>wpAny (model X.prog X.w) X.A (storeName X.env x r) (λ_=>SP X pins D .next) X.xe s₃) X.xe s₂) X.xe s:=by
  refine aP (he pins s σ H _ I h) λw s1 ⟨y,H1,I1,r1,q1⟩=>?_
  refine aP (ho pins s1 σ H1 v y u w _ I1 r r1 q1) λz s2 ⟨zv,H2,I2,r2,q2⟩=>?_
  exact wC I2 hN hi hx r2 (λs3 I3=>⟨_,H2,I3,q2⟩) hf
 rcases l with⟨hk,hm⟩|⟨hk,c,hc,hcell⟩
 . exact wpAny_loadName_local I.ok.kind hk hn hm go
 . rcases hk with hk|hk
   . exact wpAny_loadName_cell I.ok.kind hk hc hcell go
   . rcases hx with k|k
     . have:X.env.scope.names.lookup x=some .free:=hk
       rw[k] at this;cases this
     . have:X.env.scope.names.lookup x=some .free:=hk
       rw[k] at this;cases this
noncomputable def ipI (f:Int->Int->Int):Ad:=λx y H Q=>∃i j,x=.int i/\y=.int j/\Q (.int (f i j)) H
theorem Fv:RJ X .Add (ipI λi j=>i+j):=by
 intro pins s σ H x y v u Q I r1 r2 h
 obtain⟨i,j,e1,e2,q⟩:=h
 subst e1;subst e2
 obtain⟨t,rfl⟩:=r1
 obtain⟨t',rfl⟩:=r2
 exact iadd_int ⟨.int _,H,I.tok _,⟨_,rfl⟩,q⟩
end
section
variable {X:Cx}{pos:Pos}
noncomputable def acB (c:TT) (tb:TS):TS:=λD σ H=>∃W:Nat->St->Hp->Prop,(∃m,W m σ H)/\∀m σ H,W m σ H->
 c σ H λb H1=>if b=true then ∃N:St->Hp->Prop,(∀σ' H',N σ' H'->∃m',m'<m/\W m' σ' H')/\tb { D with nx:=N,ct:=N,bk:=D.nx } σ H1 else D.nx σ H1
theorem Ae {c:Expr}{body:List Stmt}{tc:TT}{tb:TS}(hp:PassesOwn (model X.prog X.w) X.A X.env X.xe)(hc:PT X c tc)(hb:gU X body tb):PS X (.While c body [] pos) (acB tc tb):=by
 intro pins s σ H D I h
 obtain⟨W,⟨m0,w0⟩,turn⟩:=h
 refine wpAny_While (codeAny_whileLoop (λn s'=>∃σ' H',Inv X pins σ' H' s'/\W n σ' H') ?_ m0 ⟨σ,H,I,w0⟩)
 rintro n s1 ⟨σ1,H1,I1,w1⟩
 refine wpAny_passesOwn hp (aP (hc pins s1 σ1 H1 _ I1 (turn n σ1 H1 w1)) λb s2 ⟨H2,I2,q2⟩=>?_)
 cases b with
 |true=>
  obtain⟨N,hN,q2⟩:=q2
  rw[if_pos rfl]
  refine wpAny_passesOwn hp (aP (hb pins s2 σ1 H2 _ I2 q2) λf s3 q3=>?_)
  cases f with
  |next=>
   obtain⟨σ3,H3,I3,n3⟩:=q3
   obtain⟨m',hm,w3⟩:=hN σ3 H3 n3
   exact⟨m',hm,σ3,H3,I3,w3⟩
  |cont=>
   obtain⟨σ3,H3,I3,n3⟩:=q3
   obtain⟨m',hm,w3⟩:=hN σ3 H3 n3
   exact⟨m',hm,σ3,H3,I3,w3⟩
  |brk=>exact q3
  |ret v=>exact q3
 |false=>
  rw[if_neg Bool.false_ne_true]
  exact wpAny_execs_nil ⟨σ1,H2,I2,q2⟩
end
structure It where
 go:Nat->Hp->Prop
 pL:Nat->Hp->V->Hp->Prop
 stop:Nat->Hp->Prop
noncomputable def fY (X:Cx) (pins:List (Addr × Obj)) (H:Hp) (b:Addr):Prop:=
 H b=none/\b≠X.env.locals/\b ∉ X.fs/\(b∈X.ex\/X.s₀.heap.objs.size<=b)/\(∀x c,X.env.cells.lookup x=some c->c≠b)/\∀p∈X.pn++pins,p.1≠b
theorem Inv.ux {X:Cx}{pins:List (Addr × Obj)}{σ:St}{H H':Hp}{s:Shared}{b:Addr}(I:Inv X pins σ H s)(hb:s.heap.objs.size<=b)(hn:H' b=none):fY X pins H' b:=by
 refine⟨hn,Nat.ne_of_gt (Nat.lt_of_lt_of_le I.lt hb),I.uq hb,.inr (Nat.le_trans I.sz hb),λx c e z=>?_,λp hp z=>?_⟩
 . obtain⟨v,q⟩:=I.cell x c e
   exact absurd (Nat.lt_of_lt_of_le q.lt (by rw[z];exact hb)) (Nat.lt_irrefl _)
 . exact absurd (Nat.lt_of_lt_of_le (Heap.lt_size (I.pin p hp).1) (by rw[z];exact hb)) (Nat.lt_irrefl _)
structure Turn (P:Program) (w:World) (K:W.Frag) (tg:Expr) (J:It) (fp:List Addr) (it:Addr) (tn:Nat->Heap->Prop):Prop where
 mem:it∈fp
 obj:∀i h,tn i h->∀b∈fp,∃o,h.get? b=some o/\∀v,o.data≠ .cell v
 keep:∀i h h',tn i h->(∀b∈fp,∀o,h.get? b=some o->h'.get? b=some o)->tn i h'
 item:∀(X:Cx),X.prog=P->X.w=w->X.K=K->X.calm=true->∀(i:Nat) (pins:List (Addr × Obj)) (s:Shared) (σ:St) (H:Hp) (E:Value->Shared->Prop),Inv X pins σ H s->(∀b∈fp,fY X pins H b)->tn i s.heap->J.go i H->
  wpAny (model P w) X.A (pyNext (.ref it)) (λr s1=>∃u,r=some u/\
   wpAny (model P w) X.A (letOwnedTupleGo tg (.ref it) u) (λ_ s2=>∃x H',Inv X pins σ H' s2/\RelV x u/\J.pL i H x H'/\tn (i+1) s2.heap/\∀b∈fp,H' b=none) E s1) E s
 done:∀(X:Cx),X.prog=P->X.w=w->X.K=K->X.calm=true->∀(i:Nat) (pins:List (Addr × Obj)) (s:Shared) (σ:St) (H:Hp) (E:Value->Shared->Prop),Inv X pins σ H s->(∀b∈fp,fY X pins H b)->tn i s.heap->J.stop i H->
  wpAny (model P w) X.A (pyNext (.ref it)) (λr s1=>r=none/\Inv X pins σ H s1) E s
 self:∀(A:Around) (i:Nat) (s:Shared) (Q:Value->Shared->Prop) (E:Value->Shared->Prop),tn i s.heap->Q (.ref it) s->wpAny (model P w) A (pyIter (.ref it)) Q E s
noncomputable abbrev TI:=St->Hp->(It->Hp->Prop)->Prop
noncomputable def PIE (X:Cx) (pins:List (Addr × Obj)) (σ:St) (tg:Expr) (R:It->Hp->Prop) (itv:Value) (s2:Shared):Prop:=
 ∃(it:Addr) (fp:List Addr) (tn:Nat->Heap->Prop) (J:It) (H':Hp),itv=.ref it/\Inv X pins σ H' s2/\Turn X.prog X.w X.K tg J fp it tn/\tn 0 s2.heap/\(∀b∈fp,fY X pins H' b)/\R J H'
noncomputable def PI (X:Cx) (tg iter:Expr) (wi:TI):Prop:=
 ∀(pins:List (Addr × Obj)) (s:Shared) (σ:St) (H:Hp) (R:It->Hp->Prop),Inv X pins σ H s->wi σ H R->
  wpAny (model X.prog X.w) X.A (eval iter X.env) (λv s1=>wpAny (model X.prog X.w) X.A (pyIter v) (PIE X pins σ tg R) X.xe s1) X.xe s
theorem Fw {M:Model}{A:Around}{E:Value->Shared->Prop}{s:Shared}{tg:Expr}{it:Addr}{u:Value}{o:Obj}{n:String}{vs:Array Value}{Q:Unit->Shared->Prop}(ho:s.heap.get? it=some o)(hc:o.cls=.type n)(hd:o.data=.fields vs)
 (hn:["enumerate","zip","dict_itemiterator","dict_reverseitemiterator","odict_iterator","itertools.zip_longest","itertools.pairwise"].contains n=false) (hQ:Q () s):wpAny M A (letOwnedTupleGo tg (.ref it) u) Q E s:=by
 unfold letOwnedTupleGo
 cases tg <;> first
  |exact wpAny_pure hQ
  |(cases u <;> first
     |exact wpAny_pure hQ
     |(refine wpAny_bind (wpAny_load ho ?_)
       rw[hc,hd]
       show wpAny M A (if(["enumerate","zip","dict_itemiterator","dict_reverseitemiterator","odict_iterator","itertools.zip_longest","itertools.pairwise"].contains n && vs[0]? == some (rawInt _))=true then _ else _) Q E s
       rw[if_neg (by intro h;rw[hn,Bool.false_and] at h;cases h)]
       exact wpAny_pure hQ))
noncomputable def RP (K:W.Frag) (a:Addr):It:=
 ⟨λi H=>∃xs x,aL K H a xs/\xs[i]? =some x,λi H x H'=>H'=H/\∀xs,aL K H a xs->xs[i]? =some x,λi H=>∃xs,aL K H a xs/\xs.length<=i⟩
noncomputable def wF (K:W.Frag) (a:Addr):It:=
 ⟨λi H=>∃xs x,aM K H a xs/\xs[i]? =some x,λi H x H'=>H'=H/\∀xs,aM K H a xs->xs[i]? =some x,λi H=>∃xs,aM K H a xs/\xs.length<=i⟩
noncomputable def rM (lo:Int) (n:Nat):It:=⟨λi _=>i<n,λi H x H'=>H'=H/\x=.int (lo+i),λi _=>n<=i⟩
theorem acC {P:Program}{w:World}{K:W.Frag}{tg:Expr}(a it:Addr):Turn P w K tg (RP K a) [it] it (λi h=>h.IsListIter it a i) where
 mem:=by simp
 obj:=λi h st b hb=>by
  have e:b=it:=by simpa using hb
  subst e
  obtain⟨o,e,c,d⟩:=st
  exact⟨o,e,λv z=>by rw[d] at z;cases z⟩
 keep:=λi h h' st k=>st.at λo e=>k it (by simp) o e
 item:=by
  intro X hP hw hK hc i pins s σ H E I hf st hg
  subst hP hw hK
  obtain⟨xs,x,hq,hx⟩:=hg
  obtain⟨its,rv,p,hz⟩:=I.list hq
  obtain⟨u,hu,ru⟩:=rv.get hx
  obtain⟨f0,f1,f2,f3,f4,f5⟩:=hf it (by simp)
  refine wpAny_pyNext_list_item st p.isList (x:=u) (by simpa using hu) λh' st' sb=>?_
  have I1:Inv X pins σ H { s with heap:=h' }:=I.turned (t':=s.toks) (λb o hb e=>(sb.2 b hb).trans e) f0 f1 f3 f4 f5
  obtain⟨o,e,c,d⟩:=id st'
  exact⟨u,rfl,Fw (s:={ s with heap:=h' }) e c d (by decide) ⟨x,H,I1,ru,⟨rfl,λys hy=>by rw[I.Ry hy hq];exact hx⟩,st',λb hb=>(hf b hb).1⟩⟩
 done:=by
  intro X hP hw hK hc i pins s σ H E I hf st hg
  subst hP hw hK
  obtain⟨xs,hq,hx⟩:=hg
  obtain⟨its,rv,p,hz⟩:=I.list hq
  obtain⟨f0,f1,f2,f3,f4,f5⟩:=hf it (by simp)
  have hl:=rv.length
  exact wpAny_pyNext_list_end (I.ok.hd hc) st p.isList (by simp;omega) λh' eb=>⟨rfl,I.turned (t':=s.toks) (λb o hb e=>eb b o hb e) f0 f1 f3 f4 f5⟩
 self:=λ_ _ _ _ _ st h=>wpAny_pyIter_listiter st h
theorem acD {P:Program}{w:World}{K:W.Frag}{tg:Expr}(a it:Addr):Turn P w K tg (wF K a) [it] it (λi h=>h.IsTupleIter it a i) where
 mem:=by simp
 obj:=λi h st b hb=>by
  have e:b=it:=by simpa using hb
  subst e
  obtain⟨o,e,c,d⟩:=st
  exact⟨o,e,λv z=>by rw[d] at z;cases z⟩
 keep:=λi h h' st k=>st.at λo e=>k it (by simp) o e
 item:=by
  intro X hP hw hK hc i pins s σ H E I hf st hg
  subst hP hw hK
  obtain⟨xs,x,hq,hx⟩:=hg
  obtain⟨its,rv,p,hz⟩:=I.tuple hq
  obtain⟨u,hu,ru⟩:=rv.get hx
  obtain⟨f0,f1,f2,f3,f4,f5⟩:=hf it (by simp)
  refine wpAny_pyNext_tuple_item st (show s.heap.IsTuple a its.toArray from p) (x:=u) (by simpa using hu) λh' st' sb=>?_
  have I1:Inv X pins σ H { s with heap:=h' }:=I.turned (t':=s.toks) (λb o hb e=>(sb.2 b hb).trans e) f0 f1 f3 f4 f5
  obtain⟨o,e,c,d⟩:=id st'
  exact⟨u,rfl,Fw (s:={ s with heap:=h' }) e c d (by decide) ⟨x,H,I1,ru,⟨rfl,λys hy=>by rw[I.acr hy hq];exact hx⟩,st',λb hb=>(hf b hb).1⟩⟩
 done:=by
  intro X hP hw hK hc i pins s σ H E I hf st hg
  subst hP hw hK
  obtain⟨xs,hq,hx⟩:=hg
  obtain⟨its,rv,p,hz⟩:=I.tuple hq
  obtain⟨f0,f1,f2,f3,f4,f5⟩:=hf it (by simp)
  have hl:=rv.length
  exact wpAny_pyNext_tuple_end (I.ok.hd hc) st (show s.heap.IsTuple a its.toArray from p) (by simp;omega) λh' eb=>⟨rfl,I.turned (t':=s.toks) (λb o hb e=>eb b o hb e) f0 f1 f3 f4 f5⟩
 self:=λ_ _ _ _ _ st h=>wpAny_pyIter_tupleiter st h
theorem acE {P:Program}{w:World}{K:PySem.W.Frag}{tg:Expr}(it:Addr)(lo:Int)(n:Nat):Turn P w K tg (rM lo n) [it] it (λi h=>IsRangeIter h it (lo+(i:Nat) * 1) ((n:Int) - (i:Nat)) 1) where
 mem:=by simp
 obj:=λi h st b hb=>by
  have e:b=it:=by simpa using hb
  subst e
  exact⟨_,st,λv z=>by
   have z':Data.fields _=Data.cell v:=z
   cases z'⟩
 keep:=λi h h' st k=>k it (by simp) _ st
 item:=by
  intro X hP hw hK hc i pins s σ H E I hf st hg
  subst hP hw hK
  obtain⟨f0,f1,f2,f3,f4,f5⟩:=hf it (by simp)
  have W:=Walks.range (prog:=X.prog) (w:=X.w) (I.ok.hd hc) it lo 1 n
  refine W.item i s _ _ hg st λv h' tk hv st' kk=>?_
  obtain⟨t,rfl⟩:=hv
  have I1:Inv X pins σ H { s with heap:=h',toks:=tk }:=I.turned (λb o hb e=>kk b o (by simpa using hb) e) f0 f1 f3 f4 f5
  refine⟨_,rfl,Fw (s:={ s with heap:=h',toks:=tk }) (n:="range_iterator") st' rfl rfl (by decide) ⟨.int (lo+i),H,I1,⟨t,?_⟩,⟨rfl,rfl⟩,st',λb hb=>(hf b hb).1⟩⟩
  rw[Int.mul_one]
 done:=by
  intro X hP hw hK hc i pins s σ H E I hf st hg
  subst hP hw hK
  obtain⟨f0,f1,f2,f3,f4,f5⟩:=hf it (by simp)
  exact wpAny_pyNext_range_end (I.ok.hd hc) st (by have:n<=i:=hg;omega) λh' eb=>⟨rfl,I.turned (t':=s.toks) (λb o hb e=>eb b o hb e) f0 f1 f3 f4 f5⟩
 self:=λ_ _ _ _ _ st h=>wpAny_pyIter_rangeiter st h
section
variable {X:Cx}{tg:Expr}
noncomputable def acF (K:W.Frag) (tl:TE):TI:=λσ H R=>tl σ H λx H1=>∃a,x=.ref a/\(∃xs,aL K H1 a xs)/\R (RP K a) H1
noncomputable def acG (K:W.Frag) (tl:TE):TI:=λσ H R=>tl σ H λx H1=>∃a,x=.ref a/\(∃xs,aM K H1 a xs)/\R (wF K a) H1
theorem RQ {l:Expr}{tl:TE}(hl:PE X l tl):PI X tg l (acF X.K tl):=by
 intro pins s σ H R I h
 refine aP (hl pins s σ H _ I h) λv s1 ⟨x,H1,I1,r1,q1⟩=>?_
 obtain⟨a,e,⟨xs,hq⟩,q⟩:=q1
 subst e
 cases r1
 obtain⟨its,rv,p,hz⟩:=I1.list hq
 refine wpAny_pyIter_list p.isList ?_
 refine⟨s1.heap.objs.size,[s1.heap.objs.size],_,_,H1,rfl,I1.kept (t':=s1.toks) λb o e=>Heap.get?_push_of_some _ e,acC a _,⟨_,Heap.get?_push_size _ rfl,rfl,rfl⟩,λb hb=>?_,q⟩
 have e:b=s1.heap.objs.size:=by simpa using hb
 subst e
 exact I1.ux (Nat.le_refl _) (I1.hok.fresh (Nat.le_refl _))
theorem acH {l:Expr}{tl:TE}(hl:PE X l tl):PI X tg l (acG X.K tl):=by
 intro pins s σ H R I h
 refine aP (hl pins s σ H _ I h) λv s1 ⟨x,H1,I1,r1,q1⟩=>?_
 obtain⟨a,e,⟨xs,hq⟩,q⟩:=q1
 subst e
 cases r1
 obtain⟨its,rv,p,hz⟩:=I1.tuple hq
 refine wpAny_pyIter_tuple (show s1.heap.IsTuple a its.toArray from p) ?_
 refine⟨s1.heap.objs.size,[s1.heap.objs.size],_,_,H1,rfl,I1.kept (t':=s1.toks) λb o e=>Heap.get?_push_of_some _ e,acD a _,⟨_,Heap.get?_push_size _ rfl,rfl,rfl⟩,λb hb=>?_,q⟩
 have e:b=s1.heap.objs.size:=by simpa using hb
 subst e
 exact I1.ux (Nat.le_refl _) (I1.hok.fresh (Nat.le_refl _))
theorem RT {pins:List (Addr × Obj)}{σ:St}{H:Hp}{s:Shared}{R:It->Hp->Prop}{E:Value->Shared->Prop}{lo hi:Int}{t u v:Tok}{tk:Nat}(I:Inv X pins σ H s)(h1: -(2 ^ 62)<=lo)(h2:lo<2 ^ 62)(h3: -(2 ^ 62)<=hi)(h4:hi<2 ^ 62)
 (q:R (rM lo (hi - lo).toNat) H):wpAny (model X.prog X.w) X.A (pyIter (.ref s.heap.objs.size)) (PIE X pins σ tg R) E { s with heap:=s.heap.push { cls:=.type "range",data:=.fields #[.int lo t,.int hi u,.int 1 v] },toks:=tk }:=by
 refine wpAny_pyIter_range (IsRange.new ..) (small_one h1 h2 h3 h4) ?_
 have I1:Inv X pins σ H { s with heap:=s.heap.push { cls:=.type "range",data:=.fields #[.int lo t,.int hi u,.int 1 v] },toks:=tk }:=I.kept λb o e=>Heap.get?_push_of_some _ e
 refine⟨(s.heap.push { cls:=.type "range",data:=.fields #[.int lo t,.int hi u,.int 1 v] }).objs.size,[(s.heap.push { cls:=.type "range",data:=.fields #[.int lo t,.int hi u,.int 1 v] }).objs.size],_,_,H,rfl,
  I1.kept (t':=tk) λb o e=>Heap.get?_push_of_some _ e,acE _ lo (hi - lo).toNat,?_,λb hb=>?_,q⟩
 . have e1:lo+((0:Nat):Int) * 1=lo:=by simp
   have e2:(((hi - lo).toNat:Nat):Int) - ((0:Nat):Int)=Builtin.Range.rangeSize lo hi 1:=by rw[rangeSize_one];split <;> omega
   show IsRangeIter _ _ (lo+((0:Nat):Int) * 1) ((((hi - lo).toNat:Nat):Int) - ((0:Nat):Int)) 1
   rw[e1,e2]
   exact Heap.get?_push_size _ rfl
 . have e:b=(s.heap.push { cls:=.type "range",data:=.fields #[.int lo t,.int hi u,.int 1 v] }).objs.size:=by simpa using hb
   subst e
   exact I1.ux (Nat.le_refl _) (I1.hok.fresh (Nat.le_refl _))
noncomputable def acI (ta:TA):TI:=λσ H R=>ta σ H λvs H1=>∃j:Int,vs=[.int j]/\ -(2 ^ 62)<=j/\j<2 ^ 62/\R (rM 0 j.toNat) H1
noncomputable def acJ (ta:TA):TI:=λσ H R=>ta σ H λvs H1=>∃i j:Int,vs=[.int i,.int j]/\(-(2 ^ 62)<=i/\i<2 ^ 62/\ -(2 ^ 62)<=j/\j<2 ^ 62)/\R (rM i (j - i).toNat) H1
theorem wG {a:Expr}{ta:TA}{p pos:Pos}(hg:Gl X "range")(hm:X.mg "range"=none)(ha:PA X [a] ta)(hs:starEach [a] X.env=[(false,eval a X.env)]:=by rfl):PI X tg (.Call (.Name "range" p) [a] [] pos) (acI ta):=by
 intro pins s σ H R I h
 refine Call_ (pI I hg hm boot_range (PyProof.Rows.callWith_type1 (aP (ha pos pins s σ H _ I h) λus s1 ⟨vs,H1,I1,r1,q1⟩=>?_) hs rfl))
 obtain⟨j,e,q1,q2,q⟩:=q1
 subst e
 cases r1 with
 |cons r rr=>
  cases rr
  obtain⟨t,rfl⟩:=r
  exact call_range_1 (RT I1 (by omega) (by omega) q1 q2 (by simpa using q))
theorem acK {a b:Expr}{ta:TA}{p pos:Pos}(hg:Gl X "range")(hm:X.mg "range"=none)(ha:PA X [a,b] ta)(hs:starEach [a,b] X.env=[(false,eval a X.env),(false,eval b X.env)]:=by rfl)(hs2:starEach [b] X.env=[(false,eval b X.env)]:=by rfl):
 PI X tg (.Call (.Name "range" p) [a,b] [] pos) (acJ ta):=by
 intro pins s σ H R I h
 refine Call_ (pI I hg hm boot_range (PyProof.Rows.callWith_type1 (aP (ha pos pins s σ H _ I h) λus s1 ⟨vs,H1,I1,r1,q1⟩=>?_) (by rw[hs,hs2]) (by rw[hs2];rfl)))
 obtain⟨i,j,e,⟨q1,q2,q3,q4⟩,q⟩:=q1
 subst e
 cases r1 with
 |cons r rr=>
  cases rr with
  |cons r' rr=>
   cases rr
   obtain⟨t,rfl⟩:=r
   obtain⟨t',rfl⟩:=r'
   exact call_range_2 (RT I1 q1 q2 q3 q4 q)
noncomputable def RV (wi:TI) (g:TG) (tb:TS):TS:=λD σ H=>wi σ H λJ H1=>∃W:Nat->Nat->St->Hp->Prop,(∃m,W 0 m σ H1)/\∀i m σ H,W i m σ H->
 (J.stop i H/\D.nx σ H)\/(J.go i H/\∃N:St->Hp->Prop,(∀σ' H',N σ' H'->∃m',m'<m/\W (i+1) m' σ' H')/\∀x H',J.pL i H x H'->g x σ H' λσ2 H2=>tb { D with nx:=N,ct:=N,bk:=D.nx } σ2 H2)
noncomputable def Af (fp:List Addr) (h:Heap):List (Addr × Obj):=fp.filterMap λb=>(h.get? b).map λo=>(b,o)
theorem pN {fp:List Addr}{h:Heap}{b:Addr}{o:Obj}(hb:b∈fp)(e:h.get? b=some o):(b,o)∈Af fp h:=List.mem_filterMap.mpr ⟨b,hb,by rw[e];rfl⟩
theorem acL {fp:List Addr}{h:Heap}{p:Addr × Obj}(hp:p∈Af fp h):p.1∈fp/\h.get? p.1=some p.2:=by
 obtain⟨b,hb,e⟩:=List.mem_filterMap.mp hp
 cases q:h.get? b with
 |none=>rw[q] at e;cases e
 |some o=>
  rw[q] at e
  have e':(b,o)=p:=Option.some.inj e
  subst e'
  exact⟨hb,q⟩
theorem Inv.pinned {pins:List (Addr × Obj)}{σ:St}{H:Hp}{s:Shared}{fp:List Addr}(I:Inv X pins σ H s)(hf:∀b∈fp,fY X pins H b)(ho:∀b∈fp,∃o,s.heap.get? b=some o/\∀v,o.data≠ .cell v):Inv X (pins++Af fp s.heap) σ H s:=
 I.pH λp hp=>(List.mem_append.mp hp).elim (λz=>I.pin p (List.mem_append_right _ z)) λz=>by
   obtain⟨hb,e⟩:=acL z
   obtain⟨f0,f1,f2,_⟩:=hf p.1 hb
   obtain⟨o,e',d⟩:=ho p.1 hb
   rw[e] at e';cases e'
   exact⟨e,f0,f1,f2,d⟩
theorem Inv.pO {pins pl:List (Addr × Obj)}{σ:St}{H:Hp}{s:Shared}(I:Inv X (pins++pl) σ H s):Inv X pins σ H s:=I.pH λp hp=>I.pin p (List.mem_append_right _ (List.mem_append_left _ hp))
theorem lQ {iter:Expr}{body:List Stmt}{wi:TI}{g:TG}{tb:TS}{pos:Pos}(hp:PassesOwn (model X.prog X.w) X.A X.env X.xe)(hc:X.calm=true)(hi:PI X tg iter wi)(hg:PG X tg g)(hb:gU X body tb)
 (hs:∀x,foldedSetIterable iter X.env x=pure x:=by intro _;rfl):PS X (.For tg iter body [] pos) (RV wi g tb):=by
 intro pins s σ H D I h
 refine wpAny_For (aP (hi pins s σ H _ I h) λv s1 h1=>aP h1 λitv s2 h2=>?_) hs
 obtain⟨it,fp,tn,J,H2,e,I2,T,st2,f2,W,⟨m0,w0⟩,turn⟩:=h2
 subst e
 have stat:∀{H':Hp},(∀b∈fp,H' b=none)->∀b∈fp,fY X pins H' b:=λhn b hb=>⟨hn b hb,(f2 b hb).2⟩
 refine codeAny_forLoop_any (λn s'=>∃i σ' H',Inv X pins σ' H' s'/\tn i s'.heap/\(∀b∈fp,H' b=none)/\W i n σ' H') ?_ m0 ⟨0,σ,H2,I2,st2,λb hb=>(f2 b hb).1,w0⟩
 rintro n s3 ⟨i,σ3,H3,I3,st3,uy,w3⟩
 rcases turn i n σ3 H3 w3 with⟨stop,qn⟩|⟨go,N,hN,step⟩
 . refine wpAny_passesOwn hp (aP (T.done X rfl rfl rfl hc i pins s3 σ3 H3 X.xe I3 (stat uy) st3 stop) λr s4 ⟨hr,I4⟩=>?_)
   subst hr
   exact wpAny_execs_nil ⟨σ3,H3,I4,qn⟩
 . refine wpAny_passesOwn hp (aP (T.item X rfl rfl rfl hc i pins s3 σ3 H3 X.xe I3 (stat uy) st3 go) λr s4 ⟨u,hr,h4⟩=>?_)
   subst hr
   refine wpAny_passesOwn hp (aP h4 λ_ s5 ⟨x,H5,I5,r5,y5,Fx,fr5⟩=>?_)
   have I5':=I5.pinned (stat fr5) (T.obj _ _ Fx)
   refine wpAny_passesOwn hp (aP (hg _ s5 σ3 H5 x u _ I5' r5 (step x H5 y5)) λ_ s6 ⟨σ6,H6,I6,q6⟩=>?_)
   refine wpAny_passesOwn hp (aP (hb _ s6 σ6 H6 _ I6 q6) λf s7 q7=>?_)
   have again:∀{σ7:St} {H7:Hp},Inv X (pins++Af fp s5.heap) σ7 H7 s7->N σ7 H7->∃m,m<n/\∃i σ' H',Inv X pins σ' H' s7/\tn i s7.heap/\(∀b∈fp,H' b=none)/\W i m σ' H':=λ{σ7 H7} I7 n7=>by
    obtain⟨m',hm,w7⟩:=hN σ7 H7 n7
    refine⟨m',hm,i+1,σ7,H7,I7.pO,T.keep _ _ _ Fx λb hb o e=>(I7.pin (b,o) (List.mem_append_right _ (List.mem_append_right _ (pN hb e)))).1,λb hb=>?_,w7⟩
    obtain⟨o,e,d⟩:=T.obj _ _ Fx b hb
    exact(I7.pin (b,o) (List.mem_append_right _ (List.mem_append_right _ (pN hb e)))).2.1
   cases f with
   |next=>obtain⟨σ7,H7,I7,n7⟩:=q7;exact again I7 n7
   |cont=>obtain⟨σ7,H7,I7,n7⟩:=q7;exact again I7 n7
   |brk=>obtain⟨σ7,H7,I7,q7⟩:=q7;exact⟨σ7,H7,I7.pO,q7⟩
   |ret v=>obtain⟨x7,σ7,H7,I7,r7,q7⟩:=q7;exact⟨x7,σ7,H7,I7.pO,r7,q7⟩
end
theorem acO {K:PySem.W.Frag}{a:Addr}{xs:List V}{g:TG}{tb:TS}{D:Ends}{σ:St}{H:Hp}(Pv:Nat->St->Hp->Prop)(h0:Pv 0 σ H)(hl:∀i σ H,i<=xs.length->Pv i σ H->aM K H a xs)
 (hs:∀i x σ H,xs[i]? =some x->Pv i σ H->g x σ H λσ2 H2=>tb { D with nx:=Pv (i+1),ct:=Pv (i+1),bk:=D.nx } σ2 H2) (hd:∀σ H,Pv xs.length σ H->D.nx σ H):
 ∃W:Nat->Nat->St->Hp->Prop,(∃m,W 0 m σ H)/\∀i m σ H,W i m σ H->
  ((wF K a).stop i H/\D.nx σ H)\/((wF K a).go i H/\∃N:St->Hp->Prop,(∀σ' H',N σ' H'->∃m',m'<m/\W (i+1) m' σ' H')/\∀x H',(wF K a).pL i H x H'->g x σ H' λσ2 H2=>tb { D with nx:=N,ct:=N,bk:=D.nx } σ2 H2):=by
 refine⟨λi m σ H=>m=xs.length - i/\i<=xs.length/\Pv i σ H,⟨xs.length,by simp,Nat.zero_le _,h0⟩,?_⟩
 rintro i m σ H ⟨rfl,hi,p⟩
 have q:=hl i σ H hi p
 by_cases hlt:i<xs.length
 . refine .inr ⟨⟨xs,xs[i],q,by simp[hlt]⟩,Pv (i+1),λσ' H' p'=>⟨xs.length - (i+1),by omega,rfl,hlt,p'⟩,λx H' y=>?_⟩
   obtain⟨e,y⟩:=y
   subst e
   exact hs i x σ _ (y xs q) p
 . have e:i=xs.length:=by omega
   subst e
   exact .inl ⟨⟨xs,q,Nat.le_refl _⟩,hd σ H p⟩
theorem uD {lo:Int}{n:Nat}{g:TG}{tb:TS}{D:Ends}{σ:St}{H:Hp}(Pv:Nat->St->Hp->Prop)(h0:Pv 0 σ H)
 (hs:∀i σ H,i<n->Pv i σ H->g (.int (lo+i)) σ H λσ2 H2=>tb { D with nx:=Pv (i+1),ct:=Pv (i+1),bk:=D.nx } σ2 H2) (hd:∀σ H,Pv n σ H->D.nx σ H):
 ∃W:Nat->Nat->St->Hp->Prop,(∃m,W 0 m σ H)/\∀i m σ H,W i m σ H->
  ((rM lo n).stop i H/\D.nx σ H)\/((rM lo n).go i H/\∃N:St->Hp->Prop,(∀σ' H',N σ' H'->∃m',m'<m/\W (i+1) m' σ' H')/\∀x H',(rM lo n).pL i H x H'->g x σ H' λσ2 H2=>tb { D with nx:=N,ct:=N,bk:=D.nx } σ2 H2):=by
 refine⟨λi m σ H=>m=n - i/\i<=n/\Pv i σ H,⟨n,by simp,Nat.zero_le _,h0⟩,?_⟩
 rintro i m σ H ⟨rfl,hi,p⟩
 by_cases hlt:i<n
 . refine .inr ⟨hlt,Pv (i+1),λσ' H' p'=>⟨n - (i+1),by omega,rfl,hlt,p'⟩,λx H' y=>?_⟩
   obtain⟨e,y⟩:=y
   subst e y
   exact hs i σ _ hlt p
 . have e:i=n:=by omega
   subst e
   exact .inl ⟨Nat.le_refl _,hd σ H p⟩
noncomputable abbrev R2:=V->V->Hp->VK->Prop
noncomputable def dJ (X:Cx) (f:Value->Value->Sem Value) (r:R2):Prop:=
 ∀(pins:List (Addr × Obj)) (s:Shared) (σ:St) (H:Hp) (x y:V) (v u:Value) (Q:VK),Inv X pins σ H s->RelV x v->RelV y u->r x y H Q->
  wpAny (model X.prog X.w) X.A (f v u) (EP X pins σ Q) X.xe s
noncomputable def Fy (X:Cx) (f:Value->Sem Value) (r:V->Hp->VK->Prop):Prop:=
 ∀(pins:List (Addr × Obj)) (s:Shared) (σ:St) (H:Hp) (x:V) (v:Value) (Q:VK),Inv X pins σ H s->RelV x v->r x H Q->
  wpAny (model X.prog X.w) X.A (f v) (EP X pins σ Q) X.xe s
noncomputable def lR (X:Cx) (f:Value) (r:List V->Hp->VK->Prop):Prop:=
 ∀(pins:List (Addr × Obj)) (s:Shared) (σ:St) (H:Hp) (xs:List V) (us:List Value) (Q:VK),Inv X pins σ H s->Vals xs us->r xs H Q->
  wpAny (model X.prog X.w) X.A (call f us) (EP X pins σ Q) X.xe s
noncomputable def uE (r:R2) (ta tb:TE):TE:=λσ H Q=>ta σ H λx H1=>tb σ H1 λy H2=>r x y H2 Q
noncomputable def tUn (r:V->Hp->VK->Prop) (ta:TE):TE:=λσ H Q=>ta σ H λx H1=>r x H1 Q
noncomputable def rI (C:Int->Int->Prop) (g:Int->Int->V):R2:=λx y H Q=>∃i j,x=.int i/\y=.int j/\C i j/\Q (g i j) H
noncomputable def rN (g:Int->Int->V):R2:=λx y H Q=>∃i j,x=.int i/\y=.int j/\Q (g i j) H
noncomputable def rU (g:Int->V):V->Hp->VK->Prop:=λx H Q=>∃i,x=.int i/\Q (g i) H
section
variable {X:Cx}{a b c:Expr}{ta tb tc:TE}{pos:Pos}
theorem Fz (ha:PE X a ta)(hb:PE X b tb){pins:List (Addr × Obj)}{s:Shared}{σ:St}{H:Hp}{R:V->V->Hp->Prop}(I:Inv X pins σ H s)
 (h:ta σ H λx H1=>tb σ H1 λy H2=>R x y H2) {Q:Value->Shared->Prop} {f:Value->Value->Sem Value}
 (hf:∀v u s2 x y H2,Inv X pins σ H2 s2->RelV x v->RelV y u->R x y H2->wpAny (model X.prog X.w) X.A (f v u) Q X.xe s2):
 wpAny (model X.prog X.w) X.A (eval a X.env) (λv s₁=>wpAny (model X.prog X.w) X.A (eval b X.env) (λu s₂=>wpAny (model X.prog X.w) X.A (f v u) Q X.xe s₂) X.xe s₁) X.xe s:=by
 refine aP (ha pins s σ H _ I h) λv s1 ⟨x,H1,I1,r1,q1⟩=>?_
 refine aP (hb pins s1 σ H1 _ I1 q1) λu s2 ⟨y,H2,I2,r2,q2⟩=>?_
 exact hf v u s2 x y H2 I2 r1 r2 q2
theorem aF {op:Operator}{r:R2}(ho:dJ X (binaryOp op) r)(ha:PE X a ta)(hb:PE X b tb):PE X (.BinOp a op b pos) (uE r ta tb):=by
 intro pins s σ H Q I h
 exact wpAny_BinOp (Fz ha hb I h λv u s2 x y H2 I2 rx ry q=>ho pins s2 σ H2 x y v u Q I2 rx ry q)
theorem Ag {op:UnaryOp}{r:V->Hp->VK->Prop}(ho:Fy X (unaryOp op) r)(ha:PE X a ta):PE X (.UnaryOp op a pos) (tUn r ta):=by
 intro pins s σ H Q I h
 exact UnaryOp_ (aP (ha pins s σ H _ I h) λv s1 ⟨x,H1,I1,r1,q1⟩=>ho pins s1 σ H1 x v Q I1 r1 q1)
theorem FJ {f:Value->Value->Sem Value}{C:Int->Int->Prop}{g:Int->Int->Int}
 (rule:∀(i j:Int) (t u:Tok) (s:Shared) (Q:Value->Shared->Prop) (E:Value->Shared->Prop),C i j->Q (.int (g i j) s.toks) { s with toks:=s.toks+1 }->wpAny (model X.prog X.w) X.A (f (.int i t) (.int j u)) Q E s):
 dJ X f (rI C λi j=>.int (g i j)):=by
 intro pins s σ H x y v u Q I rx ry h
 obtain⟨i,j,rfl,rfl,hc,q⟩:=h
 obtain⟨t,rfl⟩:=rx
 obtain⟨t',rfl⟩:=ry
 exact rule i j t t' s _ _ hc ⟨.int (g i j),H,I.tok _,⟨_,rfl⟩,q⟩
theorem RX {f:Value->Value->Sem Value}{g:Int->Int->Int}
 (rule:∀(i j:Int) (t u:Tok) (s:Shared) (Q:Value->Shared->Prop) (E:Value->Shared->Prop),Q (.int (g i j) s.toks) { s with toks:=s.toks+1 }->wpAny (model X.prog X.w) X.A (f (.int i t) (.int j u)) Q E s):
 dJ X f (rN λi j=>.int (g i j)):=by
 intro pins s σ H x y v u Q I rx ry h
 obtain⟨i,j,rfl,rfl,q⟩:=h
 obtain⟨t,rfl⟩:=rx
 obtain⟨t',rfl⟩:=ry
 exact rule i j t t' s _ _ ⟨.int (g i j),H,I.tok _,⟨_,rfl⟩,q⟩
theorem FP {f:Value->Value->Sem Value}{g:Int->Int->Bool}
 (rule:∀(i j:Int) (t u:Tok) (s:Shared) (Q:Value->Shared->Prop) (E:Value->Shared->Prop),Q (.bool (g i j)) s->wpAny (model X.prog X.w) X.A (f (.int i t) (.int j u)) Q E s):
 dJ X f (rN λi j=>.bl (g i j)):=by
 intro pins s σ H x y v u Q I rx ry h
 obtain⟨i,j,rfl,rfl,q⟩:=h
 obtain⟨t,rfl⟩:=rx
 obtain⟨t',rfl⟩:=ry
 exact rule i j t t' s _ _ ⟨.bl (g i j),H,I,rfl,q⟩
noncomputable def acQ (i j:Int):Prop:=0<j/\j<1073741824
noncomputable def FQ (i j:Int):Prop:=(-(2 ^ 64)<i/\i<2 ^ 64)\/(-(2 ^ 64)<j/\j<2 ^ 64)
theorem FQ.ok {i j:Int}(h:FQ i j):IntMulOk i j:=by
 rcases h with⟨h1,h2⟩|⟨h1,h2⟩
 . exact .of_left (intBits_le_64 h1 h2)
 . exact .of_right (intBits_le_64 h1 h2)
theorem gK:dJ X (binaryOp .Add) (rN λi j=>.int (i+j)):=RX λ_ _ _ _ _ _ _ q=>add_int q
theorem lU:dJ X (binaryOp .Sub) (rN λi j=>.int (i - j)):=RX λ_ _ _ _ _ _ _ q=>sub_int q
theorem uF:dJ X (binaryOp .Mult) (rI FQ λi j=>.int (i * j)):=FJ λ_ _ _ _ _ _ _ hc q=>mul_int q hc.ok
theorem dR:dJ X (binaryOp .FloorDiv) (rI acQ λi j=>.int (i / j)):=FJ λi j _ _ _ _ _ hc q=>by
 have h1:(0:Int)<j:=hc.1
 have h2:j<1073741824:=hc.2
 exact floordiv_int (by omega) (by rw[Int.fdiv_eq_ediv_of_nonneg i (by omega)];exact q) (.inl (PyProof.noPylong_small (by omega)))
theorem cC:dJ X (binaryOp .Mod) (rI (λ_ j=>0<j) λi j=>.int (i % j)):=FJ λi j _ _ _ _ _ hc q=>by
 have h1:(0:Int)<j:=hc
 exact mod_int' (by omega) (by rw[Int.fmod_eq_emod_of_nonneg i (by omega)];exact q)
theorem unI {f:Value->Sem Value}{g:Int->Int}
 (rule:∀(i:Int) (t:Tok) (s:Shared) (Q:Value->Shared->Prop) (E:Value->Shared->Prop),Q (.int (g i) s.toks) { s with toks:=s.toks+1 }->wpAny (model X.prog X.w) X.A (f (.int i t)) Q E s):
 Fy X f (rU λi=>.int (g i)):=by
 intro pins s σ H x v Q I rx h
 obtain⟨i,rfl,q⟩:=h
 obtain⟨t,rfl⟩:=rx
 exact rule i t s _ _ ⟨.int (g i),H,I.tok _,⟨_,rfl⟩,q⟩
theorem Ah:Fy X (unaryOp .USub) (rU λi=>.int (-i)):=unI λ_ _ _ _ _ q=>neg_int q
end
noncomputable def FT:V->V->Bool
 | .non,.non=>true| .non,.int _=>true| .int _,.non=>true| .non,.bl _=>true| .bl _,.non=>true| .non,.str _=>true| .str _,.non=>true
 | .int _,.int _=>true| .bl _,.bl _=>true| .str _,.str _=>true| .kW _,.kW _=>true
 | .int _,.str _=>true| .str _,.int _=>true| .bl _,.str _=>true| .str _,.bl _=>true
 |_,_=>false
noncomputable def RZ:R2:=λx y H Q=>FT x y=true/\Q (.bl (decide (x=y))) H
noncomputable def rNe:R2:=λx y H Q=>FT x y=true/\Q (.bl (!decide (x=y))) H
theorem R0 {i j:Int}:decide (V.int i=V.int j)=(i == j):=by
 rw[Bool.eq_iff_iff]
 simp
theorem R8 {i j:Bool}:decide (V.bl i=V.bl j)=(i == j):=by
 rw[Bool.eq_iff_iff]
 simp
theorem wH {i j:Str}:decide (V.str i=V.str j)=(i == j):=by
 rw[Bool.eq_iff_iff]
 simp
theorem R9 {i j:Array UInt8}:decide (V.kW i=V.kW j)=(i.toList == j.toList):=by
 rw[Bool.eq_iff_iff]
 cases i
 cases j
 simp
section
variable {X:Cx}{a b c:Expr}{ta tb tc:TE}{pos:Pos}
theorem cR {pins:List (Addr × Obj)}{σ:St}{H:Hp}{s:Shared}{Q:VK}{k k':Bool}(I:Inv X pins σ H s)(q:Q (.bl k) H)(e:k=k'):EP X pins σ Q (.bool k') s:=by
 subst e
 exact⟨.bl k,H,I,rfl,q⟩
theorem cj:dJ X (compareOp .Eq) RZ:=by
 intro pins s σ H x y v u Q I rx ry h
 obtain⟨hs,q⟩:=h
 cases x with
 |non=>
  cases rx
  cases y with
  |non=>cases ry;exact PySem.EqNone.eq_none_none (cR I q (by simp))
  |bl j=>cases ry;exact PySem.EqNone.eq_none_bool (cR I q (by simp))
  |int j=>obtain⟨t',rfl⟩:=ry;exact PySem.EqNone.eq_none_int (cR I q (by simp))
  |str j=>obtain⟨t',rfl⟩:=ry;exact PySem.EqNone.eq_none_str (cR I q (by simp))
  |_=>exact absurd (show false=true from hs) Bool.false_ne_true
 |bl i=>
  cases rx
  cases y with
  |non=>cases ry;exact PySem.EqNone.eq_bool_none (cR I q (by simp))
  |bl j=>cases ry;exact eq_bool (cR I q R8)
  |str j=>obtain⟨t',rfl⟩:=ry;exact PySem.EqMixed.eq_bool_str (cR I q (by simp))
  |_=>exact absurd (show false=true from hs) Bool.false_ne_true
 |int i=>
  obtain⟨t,rfl⟩:=rx
  cases y with
  |non=>cases ry;exact PySem.EqNone.eq_int_none (cR I q (by simp))
  |int j=>obtain⟨t',rfl⟩:=ry;exact eq_int (cR I q R0)
  |str j=>obtain⟨t',rfl⟩:=ry;exact PySem.EqMixed.eq_int_str (cR I q (by simp))
  |_=>exact absurd (show false=true from hs) Bool.false_ne_true
 |str i=>
  obtain⟨t,rfl⟩:=rx
  cases y with
  |non=>cases ry;exact PySem.EqNone.eq_str_none (cR I q (by simp))
  |bl j=>cases ry;exact PySem.EqMixed.eq_str_bool (cR I q (by simp))
  |int j=>obtain⟨t',rfl⟩:=ry;exact PySem.EqMixed.eq_str_int (cR I q (by simp))
  |str j=>obtain⟨t',rfl⟩:=ry;exact eq_str (cR I q wH)
  |_=>exact absurd (show false=true from hs) Bool.false_ne_true
 |kW i=>
  obtain⟨t,rfl⟩:=rx
  cases y with
  |kW j=>obtain⟨t',rfl⟩:=ry;exact W.eq_bytes (cR I q R9)
  |_=>exact absurd (show false=true from hs) Bool.false_ne_true
 |_=>cases y <;> exact absurd (show false=true from hs) Bool.false_ne_true
theorem wI:dJ X (compareOp .NotEq) rNe:=by
 intro pins s σ H x y v u Q I rx ry h
 obtain⟨hs,q⟩:=h
 cases x with
 |non=>
  cases rx
  cases y with
  |non=>cases ry;exact PySem.EqNone.ne_none_none (cR I q (by simp))
  |bl j=>cases ry;exact PySem.EqNone.ne_none_bool (cR I q (by simp))
  |int j=>obtain⟨t',rfl⟩:=ry;exact PySem.EqNone.ne_none_int (cR I q (by simp))
  |str j=>obtain⟨t',rfl⟩:=ry;exact PySem.EqNone.ne_none_str (cR I q (by simp))
  |_=>exact absurd (show false=true from hs) Bool.false_ne_true
 |bl i=>
  cases rx
  cases y with
  |non=>cases ry;exact PySem.EqNone.ne_bool_none (cR I q (by simp))
  |bl j=>cases ry;exact ne_bool (cR I q (congrArg not R8))
  |str j=>obtain⟨t',rfl⟩:=ry;exact PySem.EqMixed.ne_bool_str (cR I q (by simp))
  |_=>exact absurd (show false=true from hs) Bool.false_ne_true
 |int i=>
  obtain⟨t,rfl⟩:=rx
  cases y with
  |non=>cases ry;exact PySem.EqNone.ne_int_none (cR I q (by simp))
  |int j=>obtain⟨t',rfl⟩:=ry;exact ne_int (cR I q (congrArg not R0))
  |str j=>obtain⟨t',rfl⟩:=ry;exact PySem.EqMixed.ne_int_str (cR I q (by simp))
  |_=>exact absurd (show false=true from hs) Bool.false_ne_true
 |str i=>
  obtain⟨t,rfl⟩:=rx
  cases y with
  |non=>cases ry;exact PySem.EqNone.ne_str_none (cR I q (by simp))
  |bl j=>cases ry;exact PySem.EqMixed.ne_str_bool (cR I q (by simp))
  |int j=>obtain⟨t',rfl⟩:=ry;exact PySem.EqMixed.ne_str_int (cR I q (by simp))
  |str j=>obtain⟨t',rfl⟩:=ry;exact ne_str (cR I q (congrArg not wH))
  |_=>exact absurd (show false=true from hs) Bool.false_ne_true
 |kW i=>
  obtain⟨t,rfl⟩:=rx
  cases y with
  |kW j=>obtain⟨t',rfl⟩:=ry;exact W.ne_bytes (cR I q (congrArg not R9))
  |_=>exact absurd (show false=true from hs) Bool.false_ne_true
 |_=>cases y <;> exact absurd (show false=true from hs) Bool.false_ne_true
theorem uG:dJ X (compareOp .Lt) (rN λi j=>.bl (decide (i<j))):=FP λ_ _ _ _ _ _ _ q=>lt_int q
theorem R_:dJ X (compareOp .LtE) (rN λi j=>.bl (decide (i<=j))):=FP λ_ _ _ _ _ _ _ q=>le_int q
theorem pP:dJ X (compareOp .Gt) (rN λi j=>.bl (decide (j<i))):=FP λ_ _ _ _ _ _ _ q=>gt_int q
theorem Ai:dJ X (compareOp .In) (λx y H Q=>∃i j,x=.str i/\y=.str j/\Q (.bl (!(Builtin.Str.occurrences j i 0 j.length 1).isEmpty)) H):=by
 intro pins s σ H x y v u Q I rx ry h
 obtain⟨i,j,rfl,rfl,q⟩:=h
 obtain⟨t,rfl⟩:=rx
 obtain⟨t',rfl⟩:=ry
 exact in_str (cR I q rfl)
theorem bw (b:Expr){op:CmpOp}(h:op≠ .In:=by decide)(h2:op≠ .NotIn:=by decide):behindInMarks op b=false:=by
 have e1:(op == CmpOp.In)=false:=by cases op <;> first|rfl|exact absurd rfl h
 have e2:(op == CmpOp.NotIn)=false:=by cases op <;> first|rfl|exact absurd rfl h2
 cases b <;> simp[behindInMarks,e1,e2]
theorem wJ {op:CmpOp}{r:R2}(ho:dJ X (compareOp op) r)(ha:PE X a ta)(hb:PE X b tb)(hm:behindInMarks op b=false):PE X (.Compare a [op] [b] pos) (uE r ta tb):=by
 intro pins s σ H Q I h
 exact wpAny_Compare1 (Fz ha hb I h λv u s2 x y H2 I2 rx ry q=>ho pins s2 σ H2 x y v u Q I2 rx ry q) hm
noncomputable def Sd (t:TE):TT:=λσ H Q=>t σ H λx H'=>∃k,x=.bl k/\Q k H'
theorem bh {op:CmpOp}{r:R2}(ho:dJ X (compareOp op) r)(ha:PE X a ta)(hb:PE X b tb)(hm:behindInMarks op b=false):PT X (.Compare a [op] [b] pos) (Sd (uE r ta tb)):=by
 intro pins s σ H Q I h
 refine wpAny_isTrue_Compare1 (aP (ha pins s σ H _ I h) λv s1 ⟨x,H1,I1,r1,q1⟩=>aP (hb pins s1 σ H1 _ I1 q1) λu s2 ⟨y,H2,I2,r2,q2⟩=>
  aP (ho pins s2 σ H2 x y v u _ I2 r1 r2 q2) λc s3 ⟨z,H3,I3,r3,k,e,q3⟩=>?_) hm
 subst e
 cases r3
 exact wpAny_truthy_bool ⟨H3,I3,q3⟩
theorem uH:(sizeLine:Nat)<2 ^ 63:=by rw[sizeLine_eq];decide
theorem jG:dJ X (binaryOp .Add) (λx y H Q=>∃i j,x=.str i/\y=.str j/\i.length+j.length<=sizeLine/\Q (.str (i++j)) H):=by
 intro pins s σ H x y v u Q I rx ry h
 obtain⟨i,j,rfl,rfl,hz,q⟩:=h
 obtain⟨t,rfl⟩:=rx
 obtain⟨t',rfl⟩:=ry
 exact add_str (λt' tk=>⟨.str (i++j),H,I.tok _,⟨_,rfl⟩,q⟩) hz
theorem vals1 {x:V}{us:List Value}(r:Vals [x] us):∃u,us=[u]/\RelV x u:=by
 cases r with
 |cons r1 r2=>cases r2;exact⟨_,rfl,r1⟩
theorem vals2 {x y:V}{us:List Value}(r:Vals [x,y] us):∃u w',us=[u,w']/\RelV x u/\RelV y w':=by
 cases r with
 |cons r1 r2=>
  cases r2 with
  |cons r3 r4=>cases r4;exact⟨_,_,rfl,r1,r3⟩
theorem acT (hc:X.calm=true):lR X (.builtin "min") (λxs H Q=>∃i j,xs=[.int i,.int j]/\Q (.int (if j<i then j else i)) H):=by
 intro pins s σ H xs us Q I r h
 obtain⟨i,j,rfl,q⟩:=h
 obtain⟨u,w',rfl,⟨t,rfl⟩,⟨t',rfl⟩⟩:=vals2 r
 refine min_two_ints (I.ok.hd hc) λh' tk k=>⟨_,H,I.kept k,?_,q⟩
 by_cases hj:j<i
 . rw[if_pos hj,if_pos hj];exact⟨_,rfl⟩
 . rw[if_neg hj,if_neg hj];exact⟨_,rfl⟩
end
structure rO (h:Heap) (x dx C:Addr) (mA:Str->Option Value):Prop where
 obj:h.get? x=some (W.instObj C dx)
 ns:h.Ns1 dx mA
 ne:dx≠x
theorem acU {h:Heap}{dx:Addr}{mA:Str->Option Value}(n:h.Ns1 dx mA):∃od,h.get? dx=some od/\∀name,W.lookIn name od=some (mA name):=by
 obtain⟨o,es,ep,ho,hd,hk,_,hm⟩:=n
 refine⟨o,ho,λname=>?_⟩
 have e:=hm name
 unfold nsFind findBy at e
 rw[<-Array.find?_toList] at e
 unfold W.lookIn
 rw[hd]
 dsimp only
 split
 . rename_i y q
   rw[q] at e
   exact congrArg some e
 . rename_i q
   rw[q] at e
   have a:es.toList.any (·.refKey)=false:=by
    rw[List.any_eq_false]
    intro y hy
    obtain⟨z,t,hkey⟩:=hk y (Array.mem_toList_iff.mp hy)
    simp[DictEntry.refKey,hkey]
   have a':¬es.toList.any (·.refKey)=true:=by rw[a];exact Bool.false_ne_true
   rw[if_neg a']
   exact congrArg some e
theorem rO.look {h:Heap}{x dx C:Addr}{mA:Str->Option Value}(I:rO h x dx C mA):∃od,W.InstAt h x (W.instObj C dx) C (some od)/\∀name,W.lookIn name od=some (mA name):=
 let⟨od,ho,hl⟩:=acU I.ns
 ⟨od,⟨I.obj,rfl,rfl,ho⟩,hl⟩
section
variable {prog:Program}{w:World}{A:Around}{E:Value->Shared->Prop}{s:Shared}{K:W.Frag}{x dx C f:Addr}{mA:Str->Option Value}{name:Str}{v:Value}
theorem get_map {expr:Bool}{Q:Value->Shared->Prop}(X:K.In s.heap)(I:rO s.heap x dx C mA)(hg:W.plainGet K C name=true)(hh:W.hasDictIn K C=true)
 (ha:W.findIn K (.ref C) name=some none) (hv:mA name=some v) (hv':W.handedIn v=true) (h:Q v { s with toks:=s.toks+1 }):
 wpAny (model prog w) A (getAttr (.ref x) name expr) Q E s:=by
 obtain⟨od,J,hl⟩:=I.look
 exact W.get_value X J (W.plainGet_of hg).1 (W.findObj_own hh ha rfl (by rw[hl,hv])) hv' h
theorem acV {pl:Sem Bool}{Q:Value × List Value->Shared->Prop}(X:K.In s.heap)(I:rO s.heap x dx C mA)(hg:W.plainGet K C name=true)
 (hf:W.findIn K (.ref C) name=some (some (.ref f))) (ht:W.isFn K (.ref f)=true) (hv:mA name=none) (h:Q (.ref f,[.ref x]) s):
 wpAny (model prog w) A (getMethod (.ref x) name pl) Q E s:=by
 obtain⟨od,J,hl⟩:=I.look
 exact W.method_fn X J (W.plainGet_of hg).1 (W.plainGet_of hg).2 hf (beq_iff_eq.mp ht) (by show(W.lookIn name od).map (·.isSome)=some false;rw[hl,hv];rfl) h
theorem acW {ns:List Str}{Q:Unit->Shared->Prop}(X:K.In s.heap)(I:rO s.heap x dx C mA)
 (hs:W.findIn K (.ref C) "__setattr__"=some (some (.builtin "object.__setattr__"))) (hp:W.plainOver K C=true) (ht:W.takerIn K C name=some none) (hh:W.hasDictIn K C=true)
 (hw:PySem.Within mA ns) (hsz:ns.length<=sizeLine)
 (h:∀h',rO h' x dx C (λy=>if y=name then some v else mA y)->Heap.SameBut dx s.heap h'->Q () { s with heap:=h',toks:=s.toks+2 }):
 wpAny (model prog w) A (setAttr (.ref x) name v) Q E s:=by
 obtain⟨od,J,hl⟩:=I.look
 refine W.set_plain X J hs (W.osa_open (s:={ s with toks:=s.toks+1 }) (r:=none) X J hp ht λb=>?_)
 obtain⟨cd,hc,hd'⟩:=W.any_some hh
 have hx:s.heap.get? x=some ⟨.ref C,some dx,.plain,#[]⟩:=I.obj
 refine wpAny_bind (wpAny_pure (wpAny_bind (wpAny_bind (wpAny_loadPart hx (wpAny_bind (W.Looks.here (s:={ s with toks:=s.toks+1 }) (W.looks_clsIn X hc) ?_))))))
 rw[hd']
 refine wpAny_pure (a:=some dx) (wpAny_bind (wpAny_pure (wpAny_bind ?_)))
 refine wpAny_nsSet1 (s:={ s with toks:=s.toks+1 }) I.ns λh' hn2 hs2=>?_
 obtain⟨oD,esD,epD,hoD,hdD,hcD⟩:=hn2.count (PySem.Within.cons name v hw)
 refine wpAny_bind (wpAny_lookBehind hoD (by rw[hdD];exact pastItsLine_dict (Nat.le_trans hcD (by rw[List.length_cons];omega))) ?_)
 exact wpAny_pure (h _ ⟨(hs2.2 _ (Ne.symm I.ne)).trans I.obj,hn2,I.ne⟩ hs2)
theorem acX {R:Result->Shared->Prop}{vs:List Value}{kw:List (Str × Value)}(X:K.In s.heap)(hm:W.makesIn K C=true)
 (hi:W.findIn K (.ref C) "__init__"=some (some (.ref f))) (hf:W.typeIn K (.ref f)=some (.type "function"))
 (h:codeAny (model prog w) (A.under (.builtin "type.__call__" ⟨.ref C::vs,kw⟩)) (.call (.ref f) ⟨.ref (s.heap.objs.size+1)::vs,kw⟩) (W.InitBack (s.heap.objs.size+1) R)
   { s with heap:=(s.heap.push W.emptyDict).push (W.instObj C s.heap.objs.size) }):
 codeAny (model prog w) A (.call (.ref C) ⟨vs,kw⟩) R s:=by
 obtain⟨hh,g,d,t,os⟩:=s
 exact W.make_core (W.makes_of X hm) (W.looks_findIn X hi) (λself=>W.bind_fn X self hf) (.inl rfl) h
end
noncomputable def iB (f:Str) (v:V):List (Str × V)->List (Str × V)
 |[]=>[(f,v)]
 |(g,x)::r=>if g=f then(g,v)::r else(g,x)::iB f v r
theorem Sg (f g:Str)(v:V):∀fs:List (Str × V),(iB f v fs).lookup g=if g=f then some v else fs.lookup g
 |[]=>by
  show List.lookup g [(f,v)]=_
  by_cases h:g=f
  . have hb:(g == f)=true:=beq_iff_eq.mpr h
    simp only[List.lookup,hb,if_pos h]
  . have hb:(g == f)=false:=beq_eq_false_iff_ne.mpr h
    simp only[List.lookup,hb,if_neg h]
 |(k,x)::r=>by
  have ih:=Sg f g v r
  rw[show iB f v ((k,x)::r)=(if k=f then(k,v)::r else(k,x)::iB f v r) from rfl]
  by_cases hk:k=f
  . rw[if_pos hk]
    by_cases h:g=k
    . have hb:(g == k)=true:=beq_iff_eq.mpr h
      simp only[List.lookup,hb,if_pos (h.trans hk)]
    . have hb:(g == k)=false:=beq_eq_false_iff_ne.mpr h
      simp only[List.lookup,hb,if_neg (λe:g=f=>h (e.trans hk.symm))]
  . rw[if_neg hk]
    by_cases h:g=k
    . have hb:(g == k)=true:=beq_iff_eq.mpr h
      simp only[List.lookup,hb,if_neg (λe:g=f=>hk (h.symm.trans e))]
    . have hb:(g == k)=false:=beq_eq_false_iff_ne.mpr h
      simp only[List.lookup,hb]
      exact ih
theorem FW (f:Str)(v:V):∀fs:List (Str × V),f∈(iB f v fs).map (·.1)/\∀g,g∈fs.map (·.1)->g∈(iB f v fs).map (·.1)
 |[]=>⟨by simp[iB],λg h=>by simp at h⟩
 |(k,x)::r=>by
  obtain⟨i1,i2⟩:=FW f v r
  rw[show iB f v ((k,x)::r)=(if k=f then(k,v)::r else(k,x)::iB f v r) from rfl]
  by_cases hk:k=f
  . rw[if_pos hk]
    subst hk
    exact⟨by simp,λg h=>by simpa using h⟩
  . rw[if_neg hk]
    refine⟨?_,λg h=>?_⟩
    . rw[List.map_cons]
      exact List.mem_cons_of_mem _ i1
    . rw[List.map_cons] at h ⊢
      rcases List.mem_cons.mp h with e|e
      . exact List.mem_cons.mpr (.inl e)
      . exact List.mem_cons_of_mem _ (i2 g e)
theorem Sh (f:Str)(v:V):∀fs:List (Str × V),(iB f v fs).length<=fs.length+1
 |[]=>by simp[iB]
 |(k,x)::r=>by
  have ih:=Sh f v r
  rw[show iB f v ((k,x)::r)=(if k=f then(k,v)::r else(k,x)::iB f v r) from rfl]
  by_cases hk:k=f
  . rw[if_pos hk,List.length_cons,List.length_cons];omega
  . rw[if_neg hk,List.length_cons,List.length_cons];omega
theorem lN.some_of {v:V}{o:Option Value}(r:lN (some v) o):∃u,o=some u/\RelV v u:=by
 cases o with
 |none=>exact(show False from r).elim
 |some u=>exact⟨u,rfl,r⟩
theorem lN.none_of {o:Option Value}(r:lN none o):o=none:=by
 cases o with
 |none=>rfl
 |some u=>exact(show False from r).elim
theorem Sq {v:V}{u:Value}(r:RelV v u):W.handedIn u=true:=by
 cases v with
 |non=>cases(show u=Value.none from r);rfl
 |bl b=>cases(show u=Value.bool b from r);rfl
 |int i=>obtain⟨t,e⟩:=(show ∃t,u=Value.int i t from r);cases e;rfl
 |str x=>obtain⟨t,e⟩:=(show ∃t,u=Value.str x t from r);cases e;rfl
 |kW b=>obtain⟨t,e⟩:=(show ∃t,u=Value.bytes b t from r);cases e;rfl
 |flt b=>obtain⟨t,e⟩:=(show ∃t,u=Value.float b t from r);cases e;rfl
 |ref a=>cases(show u=Value.ref a from r);rfl
 |ty n=>cases(show u=Value.type n from r);rfl
section
variable {P:Program}{w:World}{H H':Hp}{h h':Heap}{a C dx:Addr}{fs fs':List (Str × V)}
theorem FZ (hok:cQ P w H h)(e:H a=some (.ins C dx fs)):∃mA,rO h a dx C mA/\(∀f,lN (fs.lookup f) (mA f))/\PySem.Within mA (fs.map (·.1))/\fs.length<=1000/\H dx=some (.own a):=by
 obtain⟨d,z,ne,ob,mA,n,r,q⟩:=(show eG P w H h a (.ins C dx fs) from hok a _ e)
 exact⟨mA,⟨ob,n,ne⟩,r,q,z,d⟩
end
structure Cls (K:W.Frag) (C:Addr):Prop where
 pg:W.plainGet K C Str.empty=true
 hd:W.hasDictIn K C=true
 po:W.plainOver K C=true
 sa:W.findIn K (.ref C) "__setattr__"=some (some (.builtin "object.__setattr__"))
theorem Cls.get {K:W.Frag}{C:Addr}(c:Cls K C)(f:Str):W.plainGet K C f=true:=c.pg
noncomputable def oG (K:W.Frag) (C:Addr) (f:Str):Prop:=W.findIn K (.ref C) f=some none
theorem oG.taker {K:W.Frag}{C:Addr}{f:Str}(n:oG K C f):W.takerIn K C f=some none:=by
 unfold W.takerIn
 rw[show W.findIn K (.ref C) f=some none from n]
 rfl
structure Meth (K:W.Frag) (C:Addr) (m:Str) (f:Addr):Prop where
 at_:W.findIn K (.ref C) m=some (some (.ref f))
 fn:W.isFn K (.ref f)=true
 kp:W.keepIn K (.ref f)=true
section
variable {X:Cx}{pins:List (Addr × Obj)}{σ:St}{H:Hp}{s:Shared}{a C dx:Addr}{fs:List (Str × V)}{f:Str}{v:V}{A:Around}{E:Value->Shared->Prop}
theorem Ss {b:Bool}{Q:Value->Shared->Prop}(I:Inv X pins σ H s)(e:H a=some (.ins C dx fs))(c:Cls X.K C)(n:oG X.K C f)(l:fs.lookup f=some v)
 (h:∀u s',Inv X pins σ H s'->RelV v u->Q u s'):wpAny (model X.prog X.w) A (getAttr (.ref a) f b) Q E s:=by
 obtain⟨mA,O,r,_,_,_⟩:=FZ I.hok e
 obtain⟨u,hu,ru⟩:=lN.some_of (v:=v) (o:=mA f) (by rw[<-l];exact r f)
 exact get_map I.eH O (c.get f) c.hd n hu (Sq ru) (h u _ (I.tok _) ru)
theorem Sv {m:Str}{g:Addr}{pl:Sem Bool}{Q:Value × List Value->Shared->Prop}(I:Inv X pins σ H s)(e:H a=some (.ins C dx fs))(c:Cls X.K C)(k:Meth X.K C m g)(l:fs.lookup m=none)
 (h:Q (.ref g,[.ref a]) s):wpAny (model X.prog X.w) A (getMethod (.ref a) m pl) Q E s:=by
 obtain⟨mA,O,r,_,_,_⟩:=FZ I.hok e
 have hn:mA m=none:=lN.none_of (by rw[<-l];exact r m)
 exact acV I.eH O (c.get m) k.at_ k.fn hn h
theorem Sw {y:V}{u:Value}{Q:Unit->Shared->Prop}(I:Inv X pins σ H s)(e:H a=some (.ins C dx fs))(c:Cls X.K C)(n:oG X.K C f)(hl:fs.length<1000)(ry:RelV y u)
 (h:∀s',Inv X pins σ (upd H a (.ins C dx (iB f y fs))) s'->Q () s'):wpAny (model X.prog X.w) A (setAttr (.ref a) f u) Q E s:=by
 obtain⟨mA,O,r,wi,_,ho⟩:=FZ I.hok e
 have hz:(fs.map (·.1)).length<=sizeLine:=by rw[List.length_map,sizeLine_eq];omega
 refine acW I.eH O c.sa c.po n.taker c.hd wi hz λh' O' sb=>h _ ?_
 have hd:∃o,h'.get? dx=some o:=let⟨o,_,_,e',_⟩:=O'.ns;⟨o,e'⟩
 refine I.write (x:=a) (e:=dx) (by rw[e];exact True.intro) (.inr ho) (λb q hb z=>(sb.2 b hb).trans z) hd ?_
 refine⟨by rw[aq O.ne];exact ho,?_,O.ne,O'.obj,_,O'.ns,λg=>?_,λg hg=>?_⟩
 . have:=Sh f y fs;omega
 . show lN ((iB f y fs).lookup g) (if g=f then some u else mA g)
   rw[Sg]
   by_cases q:g=f
   . rw[if_pos q,if_pos q];exact ry
   . rw[if_neg q,if_neg q];exact r g
 . by_cases q:g=f
   . rw[q];exact(FW f y fs).1
   . refine(FW f y fs).2 g (wi g λz=>hg ?_)
     show(if g=f then some u else mA g)=none
     rw[if_neg q];exact z
theorem Inv.made (I:Inv X pins σ H s):Inv X pins σ (upd (upd H s.heap.objs.size (.own (s.heap.objs.size+1))) (s.heap.objs.size+1) (.ins C s.heap.objs.size []))
 { s with heap:=(s.heap.push W.emptyDict).push (W.instObj C s.heap.objs.size) }:=by
 have e1:(s.heap.push W.emptyDict).get? s.heap.objs.size=some W.emptyDict:=Heap.get?_push_size s.heap rfl
 have e2:((s.heap.push W.emptyDict).push (W.instObj C s.heap.objs.size)).get? (s.heap.objs.size+1)=some (W.instObj C s.heap.objs.size):=by
  have:=Heap.get?_push_size (s.heap.push W.emptyDict) (o:=W.instObj C s.heap.objs.size) rfl
  rwa [Heap.size_push] at this
 have e3:(s.heap.push W.emptyDict).Ns s.heap.objs.size (λ_=>none):=⟨W.emptyDict,#[],_,e1,rfl,(λe he=>absurd he (by simp)),λ_=>rfl⟩
 have I1:=I.laid (a:=s.heap.objs.size) (o:=.own (s.heap.objs.size+1)) (h':=s.heap.push W.emptyDict) (t':=s.toks) (λb u q=>Heap.get?_push_of_some _ q) (Nat.le_refl _) ⟨_,e1⟩
 refine I1.laid (a:=s.heap.objs.size+1) (o:=.ins C s.heap.objs.size []) (t':=s.toks) (λb u q=>Heap.get?_push_of_some _ q) (Nat.le_of_eq (Heap.size_push _ _)) ?_
 have ne:s.heap.objs.size≠s.heap.objs.size+1:=Nat.ne_of_lt (Nat.lt_succ_self _)
 refine⟨by rw[aq ne,aG],Nat.zero_le _,ne,e2,λ_=>none,(Heap.Ns1.of_empty e3).at λo q=>Heap.get?_push_of_some _ q,λ_=>True.intro,λy hy=>absurd rfl hy⟩
theorem Sx {prog:Program}{w:World}{env:Env}{e:Expr}{f:Str}{pos:Pos}{s:Shared}{Q:Value->Shared->Prop}(hb:attributeBase e f env (eval e env)=eval e env)
 (h:wpAny (model prog w) A (eval e env) (λo s₁=>wpAny (model prog w) A (getAttr o f true) Q E s₁) E s):wpAny (model prog w) A (eval (.Attribute e f pos) env) Q E s:=
 Attribute_any_ h (by rw[arm_eval_Attribute,hb])
end
noncomputable def acY (K:W.Frag) (ta:TE) (f:Str):TE:=λσ H Q=>ta σ H λx H1=>∃a C dx fs v,x=.ref a/\H1 a=some (.ins C dx fs)/\Cls K C/\oG K C f/\fs.lookup f=some v/\Q v H1
noncomputable def acZ (K:W.Frag) (ta tv:TE) (f:Str):TS:=λD σ H=>tv σ H λy H1=>ta σ H1 λx H2=>∃a C dx fs,x=.ref a/\H2 a=some (.ins C dx fs)/\Cls K C/\oG K C f/\fs.length<1000/\
 D.nx σ (upd H2 a (.ins C dx (iB f y fs)))
noncomputable def Sy (X:Cx) (op:Operator) (rd:V->V->Hp->VK->Prop):Prop:=
 ∀(pins:List (Addr × Obj)) (s:Shared) (σ:St) (H:Hp) (x y:V) (u v:Value) (Q:VK),Inv X pins σ H s->RelV x u->RelV y v->rd x y H Q->wpAny (model X.prog X.w) X.A (inplaceOp op u v) (EP X pins σ Q) X.xe s
noncomputable def ac0 (K:W.Frag) (ta tv:TE) (rd:V->V->Hp->VK->Prop) (f:Str):TS:=λD σ H=>ta σ H λx H1=>∃a C dx fs v,x=.ref a/\H1 a=some (.ins C dx fs)/\Cls K C/\oG K C f/\fs.lookup f=some v/\
 tv σ H1 λy H2=>rd v y H2 λz H3=>∃Ga fs',H3 a=some (.ins C Ga fs')/\fs'.length<1000/\D.nx σ (upd H3 a (.ins C Ga (iB f z fs')))
section
variable {X:Cx}{o e value:Expr}{f:Str}{pos pos' tpos:Pos}{ta tv:TE}
theorem nq (he:PE X e ta)(hb:attributeBase e f X.env (eval e X.env)=eval e X.env):PE X (.Attribute e f pos) (acY X.K ta f):=by
 intro pins s σ H Q I h
 refine Sx hb (aP (he pins s σ H _ I h) λu s1 ⟨x,H1,I1,rx,a,C,dx,fs,v,ex,ea,c,n,l,q⟩=>?_)
 subst ex
 obtain rfl:u=Value.ref a:=rx
 exact Ss I1 ea c n l λu' s2 I2 ru=>⟨v,H1,I2,ru,q⟩
theorem SJ (ha:PE X o ta)(hv:PE X value tv)(hs:swapsWith value (some (.Attribute o f pos')) pos.line X.env=pure false):PS X (.Assign [.Attribute o f pos'] value pos) (acZ X.K ta tv f):=by
 intro pins s σ H D I h
 refine plainObj_wpAny_Assign_Attribute (aP (hv pins s σ H _ I h) λu s1 ⟨y,H1,I1,ry,q⟩=>aP (ha pins s1 σ H1 _ I1 q) λov s2 ⟨x,H2,I2,rx,a,C,dx,fs,ex,ea,c,n,l,q2⟩=>?_) hs
 subst ex
 obtain rfl:ov=Value.ref a:=rx
 exact Sw I2 ea c n l ry λs3 I3=>⟨σ,_,I3,q2⟩
theorem SM {op:Operator}{rd:V->V->Hp->VK->Prop}(ha:PE X o ta)(hv:PE X value tv)(hop:Sy X op rd):PS X (.AugAssign (.Attribute o f tpos) op value pos) (ac0 X.K ta tv rd f):=by
 intro pins s σ H D I h
 refine wpAny_AugAssign_AttributeAny (aP (ha pins s σ H _ I h) λov s1 ⟨x,H1,I1,rx,a,C,dx,fs,v,ex,ea,c,n,l,q⟩=>?_)
 subst ex
 obtain rfl:ov=Value.ref a:=rx
 refine Ss I1 ea c n l λu s2 I2 ru=>aP (hv pins s2 σ H1 _ I2 q) λw3 s3 ⟨y,H2,I3,ry,q3⟩=>aP (hop pins s3 σ H2 v y u w3 _ I3 ru ry q3) λw4 s4 ⟨z,H3,I4,rz,Ga,fs',ea',l',q4⟩=>?_
 exact Sw I4 ea' c n l' rz λs5 I5=>⟨σ,_,I5,q4⟩
noncomputable def ac2:V->V->Hp->VK->Prop:=λx y H Q=>∃i j,x=.int i/\y=.int j/\Q (.int (i+j)) H
theorem SN:Sy X .Add ac2:=by
 rintro pins s σ H x y u v Q I rx ry ⟨i,j,rfl,rfl,q⟩
 obtain⟨t,rfl⟩:=(show ∃t,u=Value.int i t from rx)
 obtain⟨t',rfl⟩:=(show ∃t',v=Value.int j t' from ry)
 exact PyProof.Rows.iadd_int ⟨.int (i+j),H,I.tok _,⟨_,rfl⟩,q⟩
end
section
variable {X:Cx}{pins:List (Addr × Obj)}{σ:St}{H:Hp}{s:Shared}{A:Around}{E:Value->Shared->Prop}{Q:Value->Shared->Prop}{c:Value}{b:Bool}
end
structure cW (k:Nat) (A:Around):Prop where
 hd:A.handled=none
 dp:A.depth+3 * k+5<recursionLimit
 un:A.units+16 * k+200<cLine
theorem cW.mono {j k:Nat}{A:Around}(r:cW k A)(h:j<=k):cW j A:=⟨r.hd,by have:=r.dp;omega,by have:=r.un;omega⟩
theorem cW.deeper {k:Nat}{A:Around}(r:cW (k+1) A)(env:Env):cW k (A.deeper env):=
 ⟨r.hd,by have:=r.dp;show A.depth+1+3 * k+5<_;omega,by have:=r.un;show A.units+3+16 * k+200<_;omega⟩
theorem ac3 {A:Around}{C:Addr}{us:List Value}{kw:List (Str × Value)}:(A.under (.builtin "type.__call__" ⟨.ref C::us,kw⟩)).depth=A.depth+1:=by
 first|rfl|simp[Around.under,Code.weight,Code.isCreation,Code.isGuard,Code.isCaller,Code.frames,Code.isFrame,guardIds]
theorem ac4 {A:Around}{C:Addr}{us:List Value}{kw:List (Str × Value)}:(A.under (.builtin "type.__call__" ⟨.ref C::us,kw⟩)).units=A.units+1:=by
 first|rfl|simp[Around.under,Code.cUnits,Code.frames,Code.isFrame]
theorem cW.make {k:Nat}{A:Around}(r:cW (k+1) A)(C:Addr)(us:List Value)(kw:List (Str × Value)):cW k (A.under (.builtin "type.__call__" ⟨.ref C::us,kw⟩)):=
 ⟨r.hd,by have:=r.dp;rw[ac3];omega,by have:=r.un;rw[ac4];omega⟩
theorem cW.depth {k:Nat}{A:Around}(r:cW k A):A.depth<recursionLimit:=by have:=r.dp;omega
theorem cW.units {k:Nat}{A:Around}(r:cW k A):A.units+64<cLine:=by have:=r.un;omega
noncomputable def gY:TA:=λ_ H Q=>Q [] H
noncomputable def iC (ta:TE) (tr:TA):TA:=λσ H Q=>ta σ H λx H1=>tr σ H1 λxs H2=>Q (x::xs) H2
section
variable {X:Cx}{e:Expr}{es:List Expr}{te:TE}{t:TA}{pos:Pos}
theorem ak:PA X [] gY:=λ_ _ _ _ H Q I h=>Calls.spliced_nil ⟨[],H,I,.nil,h⟩
theorem aj (ha:PE X e te)(hr:PA X es t)(hs:starEach (e::es) X.env=(false,eval e X.env)::starEach es X.env:=by rfl):PA X (e::es) (iC te t):=by
 intro pos pins s σ H Q I h
 rw[hs]
 show wpAny _ _ (spliced ((false,eval e X.env)::backTo pos (starEach es X.env))) _ _ s
 refine Calls.spliced_cons (aP (ha pins s σ H _ I h) λu s1 ⟨x,H1,I1,r1,q1⟩=>?_)
 exact aP (hr pos pins s1 σ H1 _ I1 q1) λus s2 ⟨xs,H2,I2,r2,q2⟩=>⟨x::xs,H2,I2,.cons r1 r2,q2⟩
noncomputable def wK (t:TA):TE:=λσ H Q=>t σ H λxs H1=>xs.length<=sizeLine/\∀p,H1 p=none->Q (.ref p) (upd H1 p (.tup xs))
noncomputable def ac5 (t:TA):TE:=λσ H Q=>t σ H λxs H1=>xs.length<=sizeLine/\∀p,H1 p=none->Q (.ref p) (upd H1 p (.lst xs))
theorem bH {x1}(h:PA X es t):PE X (.Tuple es x1 pos) (wK t):=by
 intro pins s σ H Q I hq
 refine wpAny_Tuple_spliced (aP (h pos pins s σ H _ I hq) λus s1 ⟨xs,H1,I1,r,z,q⟩=>⟨by rw[<-r.length];exact z,?_⟩)
 have hf:H1 s1.heap.objs.size=none:=I1.hok.fresh (Nat.le_refl _)
 refine⟨.ref s1.heap.objs.size,upd H1 s1.heap.objs.size (.tup xs),I1.laid (t':=s1.toks) (λb u e=>Heap.get?_push_of_some _ e) (Nat.le_refl _) ?_,rfl,q _ hf⟩
 exact⟨z,us,r,⟨_,Heap.get?_push_size _ rfl,rfl,_,rfl⟩⟩
theorem bJ (h:PA X es t):PE X (.List es pos) (ac5 t):=by
 intro pins s σ H Q I hq
 refine wpAny_List_spliced (aP (h pos pins s σ H _ I hq) λus s1 ⟨xs,H1,I1,r,z,q⟩=>⟨by rw[<-r.length];exact z,?_⟩)
 have hf:H1 s1.heap.objs.size=none:=I1.hok.fresh (Nat.le_refl _)
 refine⟨.ref s1.heap.objs.size,upd H1 s1.heap.objs.size (.lst xs),I1.laid (t':=s1.toks) (λb u e=>Heap.get?_push_of_some _ e) (Nat.le_refl _) ?_,rfl,q _ hf⟩
 exact⟨z,us,0,r,Heap.get?_push_size _ rfl⟩
end
noncomputable abbrev Sp:=List V->Hp->VK->XK->Prop
noncomputable abbrev iW:=List Env->Hp->Shared->XK->Value->Shared->Prop
structure rP (P:Program) (w:World) (K:W.Frag) (mg:Str->Option Value) (base:Heap) (A:Around) (outer:List Env) (s:Shared) (H:Hp):Prop where
 frames:A.frames=some outer
 mod:Mod K mg base
 bs:∀b o,base.get? b=some o->s.heap.get? b=some o/\H b=none
 jU:base.objs.size<=s.heap.objs.size
 jV:s.heap.FunFrames base outer
 pF:∀b∈frs outer,H b=none
 hok:cQ P w H s.heap
 bare:AllBare s.gens
noncomputable def CE (outer:List Env) (P:Program) (w:World) (H:Hp) (s:Shared) (Q:VK) (u:Value) (s':Shared):Prop:=
 ∃v H',s'.os=s.os/\AllBare s'.gens/\Un (frs outer) [] H H' s.heap s'.heap/\cQ P w H' s'.heap/\RelV v u/\Q v H'
noncomputable def CR (CX:iW) (outer:List Env) (P:Program) (w:World) (H:Hp) (s:Shared) (Q:VK) (E:XK) (r:Result) (s':Shared):Prop:=
 match r with
 | .ok (.ret u)=>CE outer P w H s Q u s'
 | .ok _=>False
 | .error e=>CX outer H s E e s'
structure aB (P:Program) (w:World) (K:W.Frag) (mg:Str->Option Value) (base:Heap) (CX:iW) (k:Nat) (f:Addr) (fd:FuncData) (ps:List Str) (sp:Sp):Prop where
 len:∀vs H Q E,sp vs H Q E->vs.length=ps.length
 run:∀(A:Around) (outer:List Env) (s:Shared) (H:Hp) (args:Args) (us:List Value) (vs:List V) (Q:VK) (E:XK),cW k A->rP P w K mg base A outer s H->BindsTo s fd args (ps.zip us)->Vals vs us->sp vs H Q E->
  codeAny (model P w) A (.call (.ref f) args) (CR CX outer P w H s Q E) s
theorem aB.imp {P:Program}{w:World}{K:W.Frag}{mg:Str->Option Value}{base:Heap}{CX:iW}{k:Nat}{f:Addr}{fd:FuncData}{ps:List Str}{sp SQ:Sp}(F:aB P w K mg base CX k f fd ps sp)
 (h:∀vs H Q E,SQ vs H Q E->sp vs H Q E):aB P w K mg base CX k f fd ps SQ:=
 ⟨λvs H Q E q=>F.len vs H Q E (h _ _ _ _ q),λA outer s H args us vs Q E hr he hb hv hs=>F.run A outer s H args us vs Q E hr he hb hv (h _ _ _ _ hs)⟩
theorem rP.make {P:Program}{w:World}{K:W.Frag}{mg:Str->Option Value}{base:Heap}{A:Around}{outer:List Env}{s:Shared}{H:Hp}(e:rP P w K mg base A outer s H)(C:Addr)(us:List Value)(kw:List (Str × Value)):
 rP P w K mg base (A.under (.builtin "type.__call__" ⟨.ref C::us,kw⟩)) outer s H:=⟨by first|exact e.frames|(simpa[Around.under,Code.envs,Code.isFrame,pushEnvs] using e.frames),e.mod,e.bs,e.jU,e.jV,e.pF,e.hok,e.bare⟩
section
variable {X:Cx}{pins:List (Addr × Obj)}{σ:St}{H:Hp}{s s':Shared}
theorem Inv.env0 (I:Inv X pins σ H s):rP X.prog X.w X.K X.mg X.base X.A X.stack s H:=
 ⟨I.ok.frames,I.ok.mod,I.bs,Nat.le_trans I.ok.jU I.sz,I.stack,I.wA,I.hok,I.bare⟩
theorem Inv.after {Q:VK}{u:Value}(I:Inv X pins σ H s)(h:CE X.stack X.prog X.w H s Q u s'):EP X pins σ Q u s':=by
 obtain⟨v,H',os,bare,un,hok,r,q⟩:=h
 obtain⟨hh,g,d,t,os'⟩:=s'
 obtain rfl:os'=s.os:=os
 exact⟨v,H',I.call (h':=hh) (g':=g) (d':=d) (t':=t) (ch:=[]) un hok bare (λb z=>absurd z (by simp)),r,q⟩
end
noncomputable def wM (sp:Sp) (dh:List V) (E:XK) (t:TA):TE:=λσ H Q=>t σ H λvs H1=>sp (vs++dh) H1 Q E
noncomputable def S5 (C:Addr) (m:Str) (sp:Sp) (dh:List V) (E:XK) (ta:TE) (t:TA):TE:=λσ H Q=>ta σ H λx H1=>∃a dx fs,x=.ref a/\H1 a=some (.ins C dx fs)/\fs.lookup m=none/\
 t σ H1 λvs H2=>sp (x::(vs++dh)) H2 Q E
noncomputable def ac6 (C:Addr) (sp:Sp) (dh:List V) (E:XK) (t:TA):TE:=λσ H Q=>t σ H λvs H1=>∀x dx,H1 x=none->H1 dx=none->dx≠x->
 sp (.ref x::(vs++dh)) (upd (upd H1 dx (.own x)) x (.ins C dx [])) (λv H2=>v=.non/\Q (.ref x) H2) E
noncomputable def Binds (K:W.Frag) (fd:FuncData) (ps:List Str) (ds:List Value):Prop:=
 ∀(s:Shared) (us:List Value),K.In s.heap->(us++ds).length=ps.length->BindsTo s fd ⟨us,[]⟩ (ps.zip (us++ds))
theorem Binds.all {K:W.Frag}{fd:FuncData}{ps:List Str}(h:∀us:List Value,us.length=ps.length->bindArgs fd ⟨us,[]⟩=pure (ps.zip us)):Binds K fd ps []:=λs us _ hl=>by
 rw[List.append_nil] at hl ⊢
 exact .of_eq (h us hl)
noncomputable def Passes (CX:iW) (X:Cx) (E:XK):Prop:=∀(pins:List (Addr × Obj)) (σ:St) (H:Hp) (s:Shared) (e:Value) (s':Shared),Inv X pins σ H s->CX X.stack H s E e s'->X.xe e s'
section
variable {X:Cx}{CX:iW}{k:Nat}{f C:Addr}{fd:FuncData}{ps:List Str}{sp:Sp}{dh:List V}{ds:List Value}{E:XK}{x m:Str}{p pos apos:Pos}{e o:Expr}{es:List Expr}{ta:TE}{t:TA}
theorem Aj {pins:List (Addr × Obj)}{σ:St}{H:Hp}{s:Shared}{Q:VK}{us:List Value}{vs:List V}(F:aB X.prog X.w X.K X.mg X.base CX k f fd ps sp)(hr:cW k X.A)(hb:Binds X.K fd ps ds)(hd:Vals dh ds)(hx:Passes CX X E)
 (I:Inv X pins σ H s) (r:Vals vs us) (h:sp (vs++dh) H Q E):wpAny (model X.prog X.w) X.A (call (.ref f) us) (EP X pins σ Q) X.xe s:=by
 have r2:Vals (vs++dh) (us++ds):=r.append hd
 have hl:(us++ds).length=ps.length:=by rw[<-r2.length];exact F.len _ _ _ _ h
 refine wpAny_call (codeAny_mono (F.run X.A X.stack s H ⟨us,[]⟩ (us++ds) (vs++dh) Q E hr I.env0 (hb s us I.eH hl) r2 h) λr s' hq=>?_)
 cases r with
 |error e=>exact hx pins σ H s e s' I hq
 |ok fl=>
  cases fl with
  |ret u=>exact I.after hq
  |next=>exact False.elim hq
  |brk=>exact False.elim hq
  |cont=>exact False.elim hq
theorem aV (F:aB X.prog X.w X.K X.mg X.base CX k f fd ps sp)(hr:cW k X.A)(hg:Gl X x)(hm:X.mg x=some (.ref f))(hk:W.keepIn X.K (.ref f)=true)(hb:Binds X.K fd ps ds)(hd:Vals dh ds)(hx:Passes CX X E)
 (ha:PA X (e::es) t) (hdb:(x == ("__debug__":Str))=false:=by decide) (he:starEach (e::es) X.env=(false,eval e X.env)::starEach es X.env:=by rfl) (hpl:(backTo pos (starEach es X.env)).any (·.1)=false:=by rfl):
 PE X (.Call (.Name x p) (e::es) [] pos) (wM sp dh E t):=by
 intro pins s σ H Q I h
 refine wpAny_Call_Name_kw (rH I hg hm ?_ hdb)
 refine W.callWith_K (h₀:=X.base) I.ok.mod.pC hk (aP (ha pos pins s σ H _ I h) λus s1 ⟨vs,H1,I1,r,q⟩=>⟨I1.eH,?_⟩) he hpl
 exact Aj F hr hb hd hx I1 r q
theorem gM {pl:Sem Bool}(he:PE X o ta)(c:Cls X.K C)(hm:Meth X.K C m f)(F:aB X.prog X.w X.K X.mg X.base CX k f fd ps sp)(hr:cW k X.A)(hb:Binds X.K fd ps ds)(hd:Vals dh ds)(hx:Passes CX X E)(ha:PA X (e::es) t)
 (hst:starEach (e::es) X.env=(false,eval e X.env)::starEach es X.env:=by rfl) (hpl:(backTo pos (starEach es X.env)).any (·.1)=false:=by rfl)
 (ht:eval (.Call (.Attribute o m apos) (e::es) [] pos) X.env=(do
   let ov <-eval o X.env
   standAt apos.atName
   let(f,first) <-holding [ov] (getMethod ov m pl)
   callWith pos f first (backTo pos (starEach (e::es) X.env)) (backToKw pos (keywordEach [] X.env))):=by rfl):
 PE X (.Call (.Attribute o m apos) (e::es) [] pos) (S5 C m sp dh E ta t):=by
 intro pins s σ H Q I h
 refine W.methodCall_KW (pl:=pl) (aP (he pins s σ H _ I h) λu s1 ⟨x,H1,I1,rx,a,dx,fs,ex,ea,l,q⟩=>?_) ht
 subst ex
 obtain rfl:u=Value.ref a:=rx
 refine Sv I1 ea c hm l ?_
 refine W.callWith_K (first:=[.ref a]) (h₀:=X.base) I.ok.mod.pC hm.kp (aP (ha pos pins s1 σ H1 _ I1 q) λus s2 ⟨vs,H2,I2,r,q2⟩=>⟨I2.eH,?_⟩) hst hpl
 exact Aj (us:=.ref a::us) (vs:=.ref a::vs) F hr hb hd hx I2 (.cons rfl r) q2
theorem ac7 {pl:Sem Bool}(he:PE X o ta)(c:Cls X.K C)(hm:Meth X.K C m f)(F:aB X.prog X.w X.K X.mg X.base CX k f fd ps sp)(hr:cW k X.A)(hb:Binds X.K fd ps ds)(hd:Vals dh ds)(hx:Passes CX X E)
 (ht:eval (.Call (.Attribute o m apos) [] [] pos) X.env=(do
   let ov <-eval o X.env
   standAt apos.atName
   let(f,first) <-holding [ov] (getMethod ov m pl)
   callWith pos f first (backTo pos (starEach [] X.env)) (backToKw pos (keywordEach [] X.env))):=by rfl):
 PE X (.Call (.Attribute o m apos) [] [] pos) (S5 C m sp dh E ta gY):=by
 intro pins s σ H Q I h
 refine W.methodCall_KW (pl:=pl) (aP (he pins s σ H _ I h) λu s1 ⟨x,H1,I1,rx,a,dx,fs,ex,ea,l,q⟩=>?_) ht
 subst ex
 obtain rfl:u=Value.ref a:=rx
 refine Sv I1 ea c hm l ?_
 exact W.callWith_K0 (first:=[.ref a]) I1.eH hm.kp (Aj (us:=[.ref a]) (vs:=[.ref a]) F hr hb hd hx I1 (.cons rfl .nil) q)
structure Mk (K:W.Frag) (C f:Addr):Prop where
 makes:W.makesIn K C=true
 init:W.findIn K (.ref C) "__init__"=some (some (.ref f))
 fn:W.isFn K (.ref f)=true
 kp:W.keepIn K (.ref C)=true
theorem ac8 {pins:List (Addr × Obj)}{σ:St}{H:Hp}{s:Shared}{Q:VK}{us:List Value}{vs:List V}(M:Mk X.K C f)(F:aB X.prog X.w X.K X.mg X.base CX k f fd ps sp)(hr:cW (k+1) X.A)(hb:Binds X.K fd ps ds)(hd:Vals dh ds)
 (hx:Passes CX X E) (I:Inv X pins σ H s) (r:Vals vs us)
 (h:∀x dx,H x=none->H dx=none->dx≠x->sp (.ref x::(vs++dh)) (upd (upd H dx (.own x)) x (.ins C dx [])) (λv H2=>v=.non/\Q (.ref x) H2) E):
 wpAny (model X.prog X.w) X.A (call (.ref C) us) (EP X pins σ Q) X.xe s:=by
 have hq:=h (s.heap.objs.size+1) s.heap.objs.size (I.hok.fresh (Nat.le_succ _)) (I.hok.fresh (Nat.le_refl _)) (Nat.ne_of_lt (Nat.lt_succ_self _))
 have I2:=Inv.made (C:=C) I
 have r2:Vals (V.ref (s.heap.objs.size+1)::(vs++dh)) (Value.ref (s.heap.objs.size+1)::(us++ds)):=.cons rfl (r.append hd)
 have hl:(Value.ref (s.heap.objs.size+1)::us++ds).length=ps.length:=by
  have e:=r2.length
  rw[F.len _ _ _ _ hq] at e
  exact e.symm
 refine wpAny_call (acX (f:=f) I.eH M.makes M.init (beq_iff_eq.mp M.fn) (codeAny_mono (F.run _ X.stack _ _ ⟨Value.ref (s.heap.objs.size+1)::us,[]⟩ (Value.ref (s.heap.objs.size+1)::(us++ds)) _ _ E (hr.make C us [])
  (I2.env0.make C us []) (hb _ (Value.ref (s.heap.objs.size+1)::us) I2.eH hl) r2 hq) λr s' hq'=>?_))
 cases r with
 |error e=>exact hx pins σ _ _ e s' I2 hq'
 |ok fl=>
  cases fl with
  |ret u=>
   obtain⟨v,H',I3,rv,ev,q3⟩:=I2.after hq'
   subst ev
   exact⟨rv,⟨V.ref (s.heap.objs.size+1),H',I3,rfl,q3⟩⟩
  |next=>exact False.elim hq'
  |brk=>exact False.elim hq'
  |cont=>exact False.elim hq'
theorem ac9 (M:Mk X.K C f)(F:aB X.prog X.w X.K X.mg X.base CX k f fd ps sp)(hr:cW (k+1) X.A)(hg:Gl X x)(hm:X.mg x=some (.ref C))(hb:Binds X.K fd ps ds)(hd:Vals dh ds)(hx:Passes CX X E)
 (ha:PA X (e::es) t) (hdb:(x == ("__debug__":Str))=false:=by decide) (he:starEach (e::es) X.env=(false,eval e X.env)::starEach es X.env:=by rfl) (hpl:(backTo pos (starEach es X.env)).any (·.1)=false:=by rfl):
 PE X (.Call (.Name x p) (e::es) [] pos) (ac6 C sp dh E t):=by
 intro pins s σ H Q I h
 refine wpAny_Call_Name_kw (rH I hg hm ?_ hdb)
 refine W.callWith_K (h₀:=X.base) I.ok.mod.pC M.kp (aP (ha pos pins s σ H _ I h) λus s1 ⟨vs,H1,I1,r,q⟩=>⟨I1.eH,?_⟩) he hpl
 exact ac8 M F hr hb hd hx I1 r q
end
section
variable {X:Cx}{CX:iW}{k:Nat}{f C:Addr}{fd:FuncData}{ps ks:List Str}{sp:Sp}{E:XK}{x m:Str}{p pos apos kpos:Pos}{e o:Expr}{es:List Expr}{kws:List Keyword}{te ta:TE}{t tk:TA}{nm:Option Str}
variable {g:List Value->List Value->List Value}{gV:List V->List V->List V}
end
structure bR (N P:List Str) (sc:Scope):Prop where
 kind:sc.kind=.function
 co:sc.isCoroutine=false
 gen:sc.isGenerator=false
 nd:N.Nodup
 pre:N.take P.length=P
 par:∀x∈P,sc.names.lookup x=some .local\/sc.names.lookup x=some .cell
 ac_:∀y∈sc.names,y.2≠ .free
theorem cA {N Q:List Str}{sc:Scope}(h1:sc.kind=.function:=by rfl)(h2:sc.isCoroutine=false:=by rfl)(h3:sc.isGenerator=false:=by rfl)(h4:N.Nodup:=by decide +kernel)(h5:N.take Q.length=Q:=by rfl)(h6:∀x∈Q,sc.names.lookup x=some .local\/sc.names.lookup x=some .cell:=by decide +kernel)(h7:∀y∈sc.names,y.2≠ .free:=by decide +kernel):bR N Q sc:=⟨h1,h2,h3,h4,h5,h6,h7⟩
theorem S6 {kindOf:Str->Option NameKind}{x:Str}:∀{binds:List (Str × Value)}{m:Str->Option Value},(∀v,(x,v) ∉ binds)->bindL kindOf binds m x=m x
 |[],_,_=>rfl
 |(n,v)::r,m,h=>by
  unfold bindL
  rw[S6 λw hw=>h w (List.mem_cons_of_mem _ hw)]
  split
  . have:x≠n:=by rintro rfl;exact h v List.mem_cons_self
    simp[this]
  . rfl
theorem S7 {kindOf:Str->Option NameKind}{x:Str}:∀{binds:List (Str × Value)}{m:Str->Option Value},(∀v,(x,v) ∉ binds)->bindC kindOf binds m x=m x
 |[],_,_=>rfl
 |(n,v)::r,m,h=>by
  unfold bindC
  rw[S7 λw hw=>h w (List.mem_cons_of_mem _ hw)]
  split
  . rfl
  . have:x≠n:=by rintro rfl;exact h v List.mem_cons_self
    simp[this]
theorem S8 {kindOf:Str->Option NameKind}{x:Str}{v:Value}:∀{P:List Str}{vs:List Value}{i:Nat}{m:Str->Option Value},P.Nodup->P[i]? =some x->vs[i]? =some v->kindOf x=some .local->
 bindL kindOf (P.zip vs) m x=some v
 |[],_,_,_,_,h,_,_=>by simp at h
 |_::_,[],_,_,_,_,h,_=>by simp at h
 |p::P,w::vs,0,m,nd,h1,h2,hk=>by
  simp at h1 h2;subst h1;subst h2
  show bindL kindOf ((p,w)::P.zip vs) m p=_
  unfold bindL
  rw[S6 λv hv=>(List.nodup_cons.mp nd).1 (List.of_mem_zip hv).1,if_pos hk]
  simp
 |p::P,w::vs,i+1,m,nd,h1,h2,hk=>by
  show bindL kindOf ((p,w)::P.zip vs) m x=_
  unfold bindL
  exact S8 (i:=i) (List.nodup_cons.mp nd).2 (by simpa using h1) (by simpa using h2) hk
theorem S9 {kindOf:Str->Option NameKind}{x:Str}{v:Value}:∀{P:List Str}{vs:List Value}{i:Nat}{m:Str->Option Value},P.Nodup->P[i]? =some x->vs[i]? =some v->kindOf x≠some .local->
 bindC kindOf (P.zip vs) m x=some v
 |[],_,_,_,_,h,_,_=>by simp at h
 |_::_,[],_,_,_,_,h,_=>by simp at h
 |p::P,w::vs,0,m,nd,h1,h2,hk=>by
  simp at h1 h2;subst h1;subst h2
  show bindC kindOf ((p,w)::P.zip vs) m p=_
  unfold bindC
  rw[S7 λv hv=>(List.nodup_cons.mp nd).1 (List.of_mem_zip hv).1,if_neg hk]
  simp
 |p::P,w::vs,i+1,m,nd,h1,h2,hk=>by
  show bindC kindOf ((p,w)::P.zip vs) m x=_
  unfold bindC
  exact S9 (i:=i) (List.nodup_cons.mp nd).2 (by simpa using h1) (by simpa using h2) hk
noncomputable def start (N:List Str) (vs:List V):St:=vs.map some++List.replicate (N.length - vs.length) none
noncomputable def fZ (CX:iW) (P:Program) (w:World) (K:W.Frag) (mg:Str->Option Value) (base:Heap) (N:List Str) (qual:Str) (scope:Scope) (f:Addr) (cd:Value) (A:Around) (outer:List Env) (s:Shared) (H:Hp) (E:XK):Cx where
 prog:=P
 w:=w
 K:=K
 mg:=mg
 base:=base
 A:=A.deeper (envOfC qual scope s.heap.objs.size f cd)
 N:=N
 s₀:=s
 H₀:=H
 env:=envOfC qual scope s.heap.objs.size f cd
 outer:=outer
 stack:=envOfC qual scope s.heap.objs.size f cd::outer
 ex:=[]
 calm:=true
 fn:=λ_=>true
 pn:=[]
 xe:=λe s'=>wpAny (model P w) (A.deeper (envOfC qual scope s.heap.objs.size f cd)) (leaving (envOfC qual scope s.heap.objs.size f cd) e) (λ_ s''=>CX outer H s E e s'') (λe' s''=>CX outer H s E e' s'') s'
theorem S_ {sc:Scope}{n:Nat}{x:Str}(h:sc.names.lookup x=some .cell):∃c,(cellsFrom n sc.names []).lookup x=some c:=by
 have q:=W.cellsFrom_some sc.names n [] (.inl h)
 exact Option.isSome_iff_exists.mp q
theorem ada {CX:iW}{P:Program}{w:World}{K:W.Frag}{mg:Str->Option Value}{base:Heap}{N ps:List Str}{qual:Str}{scope:Scope}{f:Addr}{cd:Value}{A:Around}{outer:List Env}{s s1:Shared}{H:Hp}{E:XK}{us:List Value}{vs:List V}
 (S:bR N ps scope) (hd:A.handled=none) (e0:rP P w K mg base A outer s H) (hl:vs.length=ps.length) (r:Vals vs us)
 (x:InCallC s s.heap.objs.size (bindL (envOfC qual scope s.heap.objs.size f cd).kindOf (ps.zip us) λ_=>none) (cellsFrom (s.heap.objs.size+1) scope.names []) (bindC (envOfC qual scope s.heap.objs.size f cd).kindOf (ps.zip us) λ_=>none) s1):
 Inv (fZ CX P w K mg base N qual scope f cd A outer s H E) [] (start N vs) H s1:=by
 have hpl:ps.length<=N.length:=by have:=congrArg List.length S.pre;rw[List.length_take] at this;omega
 obtain⟨h1,tk,rfl,hk⟩:=x.done
 have Gd:∀b:Addr,b ∉ (fZ CX P w K mg base N qual scope f cd A outer s H E).ex:=λb z=>absurd (show b∈([]:List Addr) from z) (by simp)
 refine⟨⟨e0.mod,S.kind,rfl,rfl,Nat.le_refl _,λy z c h1 h2=>?_,λy hy=>?_,λy c _ h=>?_,λ_=>hd,Around.frames_deeper e0.frames,.inr ⟨rfl,rfl⟩,λb z=>absurd z (Gd b),e0.bs,e0.jU,λb _ _=>Gd b,λb z=>absurd z (Gd b),e0.jV,e0.pF⟩,
  rfl,e0.bare,Un.kept hk,⟨_,x.toInCall.ns,λi y v h1 h2 h3=>?_⟩,λy c h=>⟨_,x.cell y c h⟩,e0.hok.fresh (Nat.le_refl _),λy c h=>?_,λp hp=>absurd (show p∈([]:List (Addr × Obj)) from hp) (by simp),e0.hok.kept hk,?_⟩
 . exact name_of_addr x.apart (PySem.mem_of_lookup h1) (PySem.mem_of_lookup h2)
 . have hy:scope.names.lookup y=some .cell\/scope.names.lookup y=some .free:=hy
   rcases hy with hy|hy
   . exact S_ hy
   . exact absurd rfl (S.ac_ _ (PySem.mem_of_lookup hy))
 . exact Nat.le_of_lt (x.above y c (PySem.mem_of_lookup h))
 . have hi:i<vs.length:=by
    unfold start at h2
    by_cases hi:i<vs.length
    . exact hi
    . rw[List.getElem?_append_right (by simpa using hi)] at h2
      rw[List.getElem?_replicate] at h2
      split at h2 <;> cases h2
   have ha:vs[i]? =some v:=by
    unfold start at h2
    rw[List.getElem?_append_left (by simpa using hi),List.getElem?_map] at h2
    cases e:vs[i]? with
    |none=>rw[e] at h2;cases h2
    |some a=>rw[e] at h2;cases h2;rfl
   obtain⟨u,hu,rv⟩:=r.get ha
   have hp:ps[i]? =some y:=by
    rw[<-S.pre,List.getElem?_take_of_lt (by omega)];exact h1
   have Tc:ps.Nodup:=by rw[<-S.pre];exact S.nd.sublist (List.take_sublist _ _)
   refine⟨u,rv,?_⟩
   rcases S.par y (List.mem_of_getElem? hp) with k|k
   . exact .inl ⟨k,S8 Tc hp hu k⟩
   . obtain⟨c,e⟩:=S_ (n:=s.heap.objs.size+1) k
     refine .inr ⟨.inl k,c,e,?_⟩
     have q:=x.cell y c e
     rw[S9 Tc hp hu (by show scope.names.lookup y≠_;rw[k];decide)] at q
     exact q
 . exact e0.hok.fresh (Nat.le_of_lt (x.above y c (PySem.mem_of_lookup h)))
 . unfold start
   show _=N.length
   rw[List.length_append,List.length_map,List.length_replicate]
   omega
theorem Ak {CX:iW}{P:Program}{w:World}{K:W.Frag}{mg:Str->Option Value}{base:Heap}{k:Nat}{f:Addr}{name qual:Str}{params:Arguments}{body:List Stmt}{scope:Scope}{dV kV doc pm cdv ct oc:Value}{an od:Option Addr}
 {osl:Array (Option Value)} {N ps:List Str} {sp:Sp} (lk:K.lookup f=some ⟨oc,od,.func (W.fnOf name qual params body scope dV kV doc pm an cdv ct),osl⟩) (hcd:W.codeIn K cdv qual=true) (S:bR N ps scope)
 (len:∀vs H Q E,sp vs H Q E->vs.length=ps.length)
 (hbody:∀(A:Around) (outer:List Env) (s:Shared) (H:Hp) (vs:List V) (Q:VK) (E:XK),cW k (A.deeper (envOfC qual scope s.heap.objs.size f cdv))->sp vs H Q E->
   ∃t,gU (fZ CX P w K mg base N qual scope f cdv A outer s H E) body t/\t { nx:=λ_ H'=>Q .non H',rt:=Q } (start N vs) H):
 aB P w K mg base CX (k+1) f (W.fnOf name qual params body scope dV kV doc pm an cdv ct) ps sp:=by
 refine⟨len,λA outer s H args us vs Q E hr e0 hb r hsp=>?_⟩
 have hl:=len _ _ _ _ hsp
 have KX:K.In s.heap:=e0.mod.pC.keeps λb o e=>(e0.bs b o e).1
 have lim:s.heap.NoLimit:=e0.mod.nolimit.keeps λb o e=>(e0.bs b o e).1
 have hkind:∀y∈ps.zip us,scope.names.lookup y.1=some .local\/(scope.names.lookup y.1=some .cell/\((cellsFrom (s.heap.objs.size+1) scope.names []).lookup y.1).isSome=true):=λ⟨n,v⟩ hy=>by
  rcases S.par n (List.of_mem_zip hy).1 with q|q
  . exact .inl q
  . exact .inr ⟨q,W.cellsFrom_some _ _ _ (.inl q)⟩
 refine codeAny_call_function hr.depth (KX _ _ lk) rfl S.co S.gen rfl (W.codeRec_of KX hcd) (hb _ _ _ _ ?_)
 refine wpAny_newFunctionEnv_cells S.kind hkind λenv he s1 x=>?_
 subst he
 refine⟨lim.keeps x.toInCall.keep,codeAny_func ?_⟩
 obtain⟨t,ht,hq⟩:=hbody A outer s H vs Q E (hr.deeper _) hsp
 have I:Inv (fZ CX P w K mg base N qual scope f cdv A outer s H E) [] (start N vs) H s1:=ada S hr.hd e0 hl r x
 refine wpAny_mono (ht [] s1 (start N vs) H _ I hq) (λfl s' hs=>?_) λe s' hs=>hs
 have fin:∀{σ':St} {H':Hp} {v:V} {u:Value},Inv (fZ CX P w K mg base N qual scope f cdv A outer s H E) [] σ' H' s'->RelV v u->Q v H'->CE outer P w H s Q u s':=
  λ{σ' H' v u} J rv q=>⟨v,H',J.os,J.bare,J.base,J.hok,rv,q⟩
 cases fl with
 |ret u=>
  obtain⟨v,σ',H',J,rv,q⟩:=hs
  exact fin J rv q
 |next=>
  obtain⟨σ',H',J,q⟩:=hs
  exact fin (v:=V.non) (u:=Value.none) J rfl q
 |brk=>
  obtain⟨_,_,_,q⟩:=hs
  exact False.elim q
 |cont=>
  obtain⟨_,_,_,q⟩:=hs
  exact False.elim q
section
variable {X:Cx}{x:Str}{p pos:Pos}{e:Expr}{es:List Expr}{t:TA}{id T:String}{r:List V->Hp->VK->Prop}
noncomputable def Td (r:List V->Hp->VK->Prop) (t:TA):TE:=λσ H Q=>t σ H λvs H1=>r vs H1 Q
theorem gb (hc:lR X (.builtin id) r)(hg:Gl X x)(hm:X.mg x=none)(hv:bootBuiltins x=some (.builtin id))(ha:PA X (e::es) t)(hn:x≠"__name__":=by decide)(hdb:(x == ("__debug__":Str))=false:=by decide)
 (he:starEach (e::es) X.env=(false,eval e X.env)::starEach es X.env:=by rfl) (hpl:(backTo pos (starEach es X.env)).any (·.1)=false:=by rfl):PE X (.Call (.Name x p) (e::es) [] pos) (Td r t):=by
 intro pins s σ H Q I h
 refine wpAny_Call_Name_kw (pI I hg hm hv ?_ hn hdb)
 exact PyProof.Rows.callWith_builtin1 (aP (ha pos pins s σ H _ I h) λus s1 ⟨vs,H1,I1,r1,q1⟩=>hc pins s1 σ H1 vs us Q I1 r1 q1) he hpl
theorem uI (hc:lR X (.type T) r)(hg:Gl X x)(hm:X.mg x=none)(hv:bootBuiltins x=some (.type T))(ha:PA X (e::es) t)(hn:x≠"__name__":=by decide)(hdb:(x == ("__debug__":Str))=false:=by decide)
 (he:starEach (e::es) X.env=(false,eval e X.env)::starEach es X.env:=by rfl) (hpl:(backTo pos (starEach es X.env)).any (·.1)=false:=by rfl):PE X (.Call (.Name x p) (e::es) [] pos) (Td r t):=by
 intro pins s σ H Q I h
 refine wpAny_Call_Name_kw (pI I hg hm hv ?_ hn hdb)
 exact PyProof.Rows.callWith_type1 (aP (ha pos pins s σ H _ I h) λus s1 ⟨vs,H1,I1,r1,q1⟩=>hc pins s1 σ H1 vs us Q I1 r1 q1) he hpl
end
end L2
namespace HT
open PySem PyProof.Rows
section
open PySem.SeqAt
open PySem.AutoSeq1 (wpAny_loadPart')
open PySem.MeetsSeq PySem.MeetsSeq2 PySem.MeetsSeq3
end
section
variable {prog:Program}{w:World}{A:Around}{E:Value->Shared->Prop}{s:Shared}
noncomputable def iD (n d:Nat):Option Int->Nat
 |none=>d
 |some v=>if v<0 then(v+(n:Int)).toNat else min v.toNat n
theorem Te (n d:Nat):iD n d none=d:=rfl
theorem Tf (n d k:Nat):iD n d (some (k:Int))=min k n:=by
 show(if(k:Int)<0 then((k:Int)+(n:Int)).toNat else min (k:Int).toNat n)=min k n
 rw[if_neg (by omega),Int.toNat_natCast]
end
end HT
namespace L2
open PySem PySem.Spec PyProof.Rows
noncomputable abbrev TO:=St->Hp->(Option Int->Hp->Prop)->Prop
noncomputable def PO (X:Cx) (e:Option Expr) (t:TO):Prop:=
 ∀(pins:List (Addr × Obj)) (s:Shared) (σ:St) (H:Hp) (Q:Option Int->Hp->Prop),Inv X pins σ H s->t σ H Q->
  wpAny (model X.prog X.w) X.A (evalPart e X.env) (λu s'=>∃o H',Inv X pins σ H' s'/\IsPart u o/\Q o H') X.xe s
noncomputable def adb:TO:=λ_ H Q=>Q none H
noncomputable def ade (t:TE):TO:=λσ H Q=>t σ H λx H1=>∃i,x=.int i/\Q (some i) H1
section
variable {X:Cx}{e:Expr}{te:TE}{lo hi:Option Expr}{tl th:TO}{pos p2:Pos}
theorem uJ:PO X none adb:=by
 intro pins s σ H Q I h
 rw[evalPart_none]
 exact wpAny_pure ⟨none,H,I,.none,h⟩
theorem iY (h:PE X e te):PO X (some e) (ade te):=by
 intro pins s σ H Q I hw
 rw[evalPart_some]
 refine aP (h pins s σ H _ I hw) λu s1 ⟨x,H1,I1,r1,q1⟩=>?_
 obtain⟨i,rfl,q⟩:=q1
 obtain⟨t,rfl⟩:=r1
 exact⟨some i,H1,I1,.int i t,q⟩
noncomputable def Ge (X:Cx) (r:V->Option Int->Option Int->Hp->VK->Prop):Prop:=
 ∀(pins:List (Addr × Obj)) (s:Shared) (σ:St) (H:Hp) (x:V) (v vl vu:Value) (lo hi:Option Int) (sl:Addr) (Q:VK),Inv X pins σ H s->RelV x v->s.heap.IsSliceOf sl vl vu .none->IsPart vl lo->IsPart vu hi->r x lo hi H Q->
  ∃T id,typeLookup (.type T) "__getitem__"=pure (some (.builtin id))/\s.TypeIs v T/\wpAny (model X.prog X.w) X.A (getItem v (.ref sl)) (EP X pins σ Q) X.xe s
noncomputable def tSl (r:V->Option Int->Option Int->Hp->VK->Prop) (te:TE) (tl th:TO):TE:=λσ H Q=>te σ H λx H1=>tl σ H1 λl H2=>th σ H2 λu H3=>r x l u H3 Q
theorem lV {r:V->Option Int->Option Int->Hp->VK->Prop}(hr:Ge X r)(he:PE X e te)(hl:PO X lo tl)(hu:PO X hi th):PE X (.Subscript e (.Slice lo hi none p2) pos) (tSl r te tl th):=by
 intro pins s σ H Q I h
 refine Subscript_ (aP (he pins s σ H _ I h) λv s1 ⟨x,H1,I1,r1,q1⟩=>?_)
 refine wpAny_Slice (aP (hl pins s1 σ H1 _ I1 q1) λvl s2 ⟨l,H2,I2,pl,q2⟩=>aP (hu pins s2 σ H2 _ I2 q2) λvu s3 ⟨u,H3,I3,pu,q3⟩=>?_)
 rw[evalPart_none]
 refine wpAny_pure ?_
 have I4:Inv X pins σ H3 { s3 with heap:=s3.heap.push { cls:=.type "slice",data:=.fields #[vl,vu,.none] } }:=I3.kept (t':=s3.toks) λb ob q=>Heap.get?_push_of_some _ q
 obtain⟨T,id,hT,ht,hg⟩:=hr pins { s3 with heap:=s3.heap.push { cls:=.type "slice",data:=.fields #[vl,vu,.none] } } σ H3 x v vl vu l u s3.heap.objs.size Q I4 r1 (Heap.IsSliceOf.new ..) pl pu q3
 show wpAny (model X.prog X.w) X.A (subscriptTail e (.Slice lo hi none p2) v (.ref s3.heap.objs.size)) (EP X pins σ Q) X.xe { s3 with heap:=s3.heap.push { cls:=.type "slice",data:=.fields #[vl,vu,.none] } }
 exact tail_any (ops:=[.ref s3.heap.objs.size,v]) ht hT hg (by with_unfolding_all rfl)
noncomputable def jX (xs:List V) (lo hi:Option Int):List V:=(xs.drop (HT.iD xs.length 0 lo)).take (HT.iD xs.length xs.length hi - HT.iD xs.length 0 lo)
theorem adg (xs:List V)(lo hi:Option Int):(jX xs lo hi).length<=xs.length:=by
 unfold jX
 rw[List.length_take,List.length_drop]
 omega
end
noncomputable def lW (n:Nat) (i:Int):Option Nat:=if 0<=i then(if i<n then some i.toNat else none) else if -(n:Int)<=i then some (i+n).toNat else none
noncomputable def cM {α:Type}(xs:List α) (i:Int):Option α:=(lW xs.length i).bind λj=>xs[j]?
theorem Tg {n:Nat}{i:Int}{j:Nat}(h:lW n i=some j):seqIndex? i n=some j/\j<n/\ -(n:Int)<=i/\i<n:=by
 unfold lW at h
 by_cases h0:0<=i
 . rw[if_pos h0] at h
   by_cases h1:i<n
   . rw[if_pos h1] at h
     have e:i.toNat=j:=Option.some.inj h
     exact⟨by rw[seqIndex_of h0 h1,e],by omega,by omega,h1⟩
   . rw[if_neg h1] at h;cases h
 . rw[if_neg h0] at h
   by_cases h1: -(n:Int)<=i
   . rw[if_pos h1] at h
     have e:(i+n).toNat=j:=Option.some.inj h
     exact⟨by rw[seqIndex_neg (by omega) h1,e],by omega,h1,by omega⟩
   . rw[if_neg h1] at h;cases h
theorem Gf {α:Type}{xs:List α}{i:Int}{v:α}(h:cM xs i=some v):∃j,seqIndex? i xs.length=some j/\xs[j]? =some v/\j<xs.length/\ -(xs.length:Int)<=i/\i<xs.length:=by
 unfold cM at h
 cases e:lW xs.length i with
 |none=>rw[e] at h;cases h
 |some j=>
  rw[e] at h
  obtain⟨h1,h2,h3,h4⟩:=Tg e
  exact⟨j,h1,h,h2,h3,h4⟩
theorem gZ {α:Type}{xs:List α}{j:Nat}{v:α}(h:xs[j]? =some v):cM xs (j:Int)=some v:=by
 have hj:j<xs.length:=(List.getElem?_eq_some_iff.mp h).1
 have e:lW xs.length (j:Int)=some j:=by
  unfold lW
  rw[if_pos (by omega),if_pos (by omega)];simp
 unfold cM;rw[e];exact h
theorem Al {α:Type}(xs:List α)(v:α):cM (xs++[v]) (-1)=some v:=by
 have hl:(xs++[v]).length=xs.length+1:=by simp
 have e:lW (xs++[v]).length (-1)=some xs.length:=by
  unfold lW
  rw[hl,if_neg (by decide),if_pos (by omega)]
  congr 1
  omega
 unfold cM
 rw[e]
 show(xs++[v])[xs.length]? =some v
 simp
noncomputable def adh (b:Expr):Prop:=∀o i,subscripted b false o i=operate [o,i] (getItem o i)
noncomputable def Am (X:Cx) (r:R2):Prop:=
 ∀(value slice:Expr) (pins:List (Addr × Obj)) (s:Shared) (σ:St) (H:Hp) (x y:V) (v u:Value) (Q:VK),Inv X pins σ H s->RelV x v->RelV y u->r x y H Q->
  subscripted slice false v u=operate [v,u] (getItem v u)->wpAny (model X.prog X.w) X.A (subscriptTail value slice v u) (EP X pins σ Q) X.xe s
noncomputable def Ti (X:Cx) (id:String) (r:V->List V->Hp->VK->Prop):Prop:=
 ∀(pins:List (Addr × Obj)) (s:Shared) (σ:St) (H:Hp) (x:V) (xs:List V) (v:Value) (us:List Value) (Q:VK),Inv X pins σ H s->RelV x v->Vals xs us->r x xs H Q->
  wpAny (model X.prog X.w) X.A (call (.builtin id) (v::us)) (EP X pins σ Q) X.xe s
section
variable {X:Cx}{a b:Expr}{ta tb:TE}{pos:Pos}
theorem aU {r:R2}(hr:Am X r)(ha:PE X a ta)(hb:PE X b tb)(hs:adh b):PE X (.Subscript a b pos) (uE r ta tb):=by
 intro pins s σ H Q I h
 exact Subscript_ (Fz ha hb I h λv u s2 x y H2 I2 rx ry q=>hr a b pins s2 σ H2 x y v u Q I2 rx ry q (hs _ _))
noncomputable def adi (K:W.Frag):R2:=λx y H Q=>∃p xs i v,x=.ref p/\y=.int i/\aL K H p xs/\cM xs i=some v/\Q v H
noncomputable def Tj (K:W.Frag):R2:=λx y H Q=>∃p xs i v,x=.ref p/\y=.int i/\aM K H p xs/\cM xs i=some v/\Q v H
noncomputable def adk:R2:=λx y H Q=>∃z i c,x=.str z/\y=.int i/\z.length<=sizeLine/\cM z.cps.toList i=some c/\Q (.str ⟨#[c]⟩) H
theorem dU:Am X (adi X.K):=by
 intro value slice pins s σ H x y v u Q I rx ry h hs
 obtain⟨p,xs,i,z,rfl,rfl,hq,he,q⟩:=h
 cases rx
 obtain⟨t,rfl⟩:=ry
 obtain⟨its,r,pl,hz⟩:=I.list hq
 obtain⟨j,h1,h2,h3,h4,h5⟩:=Gf he
 obtain⟨w,ew,Gg⟩:=r.get h2
 have hl:=r.length
 have hn:=uH
 have fin:EP X pins σ Q w s:=⟨z,H,I,Gg,q⟩
 by_cases h0:0<=i
 . have hj:i.toNat=j:=by
    rw[seqIndex_of h0 h5] at h1
    exact Option.some.inj h1
   exact item_listR pl.isList h0 (by omega) (by rw[hj];simpa using ew) fin hs
 . have hj:(i+(its.toArray.size:Int)).toNat=j:=by
    rw[seqIndex_neg (by omega) h4] at h1
    rw[List.size_toArray,<-hl]
    exact Option.some.inj h1
   exact subscriptTail_builtinR (x:=w) pl.isList.typeIs slot_list_getitem.lookup
    (wpAny_getItem_list_neg (Q:=λr s'=>r=w/\EP X pins σ Q r s') pl.isList (by omega) (by rw[List.size_toArray] <;> omega) (by omega) (by rw[hj];simpa using ew) ⟨rfl,fin⟩) hs
theorem bY:Am X (Tj X.K):=by
 intro value slice pins s σ H x y v u Q I rx ry h hs
 obtain⟨p,xs,i,z,rfl,rfl,hq,he,q⟩:=h
 cases rx
 obtain⟨t,rfl⟩:=ry
 obtain⟨its,r,pl,hz⟩:=I.tuple hq
 obtain⟨j,h1,h2,h3,h4,h5⟩:=Gf he
 obtain⟨w,ew,Gg⟩:=r.get h2
 have hl:=r.length
 have hn:=uH
 have fin:EP X pins σ Q w s:=⟨z,H,I,Gg,q⟩
 exact subscriptTail_builtinR (x:=w) pl.typeIs slot_tuple_getitem.lookup
  (getItem_tuple (j:=j) (Q:=λr s'=>r=w/\EP X pins σ Q r s') pl (by omega) (by omega) (by rw[List.size_toArray,<-hl];exact h1) (by simpa using ew) ⟨rfl,fin⟩) hs
theorem jY:Am X adk:=by
 intro value slice pins s σ H x y v u Q I rx ry h hs
 obtain⟨z,i,c,rfl,rfl,hz,he,q⟩:=h
 obtain⟨t,rfl⟩:=rx
 obtain⟨t',rfl⟩:=ry
 obtain⟨j,h1,h2,h3,h4,h5⟩:=Gf he
 have hl:z.cps.toList.length=z.length:=by simp[Str.length]
 rw[hl] at h1 h4 h5
 have hn:=uH
 exact tail_any (typeIs_str s z t) slot_str_getitem.lookup (getItem_str (c:=c) (by
  have e1:decide (i< -(2 ^ 63:Int))=false:=decide_eq_false (by omega)
  have e2:decide (i ≥ 2 ^ 63)=false:=decide_eq_false (by omega)
  rw[e1,e2,Bool.or_false]) (by rw[h1];simpa using h2) ⟨.str ⟨#[c]⟩,H,I.tok _,⟨_,rfl⟩,q⟩) hs
theorem adl (its:List Value)(n j:Nat)(u:Value):Obj.mapSeq (·.setIfInBounds j u) { cls:=.type "list",data:=.seq its.toArray n }={ cls:=.type "list",data:=.seq (its.set j u).toArray n }:=by
 simp[Obj.mapSeq]
theorem Inv.lst {pins:List (Addr × Obj)}{σ:St}{H:Hp}{s:Shared}{p:Addr}{xs:List V}(I:Inv X pins σ H s)(h:H p=some (.lst xs)):
 ∃(its:List Value) (n:Nat),Vals xs its/\s.heap.get? p=some { cls:=.type "list",data:=.seq its.toArray n }/\xs.length<=sizeLine:=by
 obtain⟨z,its,n,r,e⟩:=I.hok p _ h
 exact⟨its,n,r,e,z⟩
theorem Inv.adn {pins:List (Addr × Obj)}{σ:St}{H:Hp}{s:Shared}{p:Addr}{xs ys:List V}{its its':List Value}{n n':Nat}{f:Obj->Obj}(I:Inv X pins σ H s)(h:H p=some (.lst xs))
 (ho:s.heap.get? p=some { cls:=.type "list",data:=.seq its.toArray n }) (hf:f { cls:=.type "list",data:=.seq its.toArray n }={ cls:=.type "list",data:=.seq its'.toArray n' }) (r:Vals ys its') (hz:ys.length<=sizeLine) (t:Nat):
 Inv X pins σ (upd H p (.lst ys)) { s with heap:=s.heap.update p f,toks:=t }:=by
 have e:(s.heap.update p f).get? p=some { cls:=.type "list",data:=.seq its'.toArray n' }:=by
  rw[Heap.get?_update_self f ho (by rw[hf] <;> rfl),hf]
 refine I.write (x:=p) (e:=p) (by rw[h];trivial) (.inl rfl) (λb u hb q=>(Heap.get?_update_other _ _ (Ne.symm hb)).trans q) ⟨_,e⟩ ?_
 exact⟨hz,its',n',r,e⟩
noncomputable def ado:V->V->V->Hp->(Hp->Prop)->Prop:=λo i v H Q=>∃p xs k j,o=.ref p/\i=.int k/\H p=some (.lst xs)/\lW xs.length k=some j/\Q (upd H p (.lst (xs.set j v)))
theorem set_list:RB X ado:=by
 intro pins s σ H o i v ov iv u Q I ro ri rv h
 obtain⟨p,xs,k,j,rfl,rfl,hp,hj,q⟩:=h
 cases ro
 obtain⟨t,rfl⟩:=ri
 obtain⟨its,n,r,ho,hz⟩:=I.lst hp
 obtain⟨h1,h2,h3,h4⟩:=Tg hj
 have hl:=r.length
 have hn:=uH
 have I':Inv X pins σ (upd H p (.lst (xs.set j v))) { s with heap:=s.heap.update p (Obj.mapSeq (·.setIfInBounds j u)) }:=
  I.adn hp ho (adl its n j u) (r.set rv j) (by rw[List.length_set];exact hz) s.toks
 by_cases h0:0<=k
 . have hk:k.toNat=j:=by
    rw[seqIndex_of h0 h4] at h1
    exact Option.some.inj h1
   exact W.ki_setAt ho h0 (by omega) (by rw[List.size_toArray,<-hl];exact h4) (by rw[hk];exact⟨_,I',q⟩)
 . have hk:(k+(its.toArray.size:Int)).toNat=j:=by
    rw[seqIndex_neg (by omega) h3] at h1
    rw[List.size_toArray,<-hl]
    exact Option.some.inj h1
   exact W.ki_setBack ho (by omega) (by rw[List.size_toArray,<-hl];exact h3) (by omega) (by rw[hk];exact⟨_,I',q⟩)
theorem adp (lo hi:Option Int)(n:Nat):(sliceBounds lo hi none n).1=((HT.iD n 0 lo:Nat):Int)/\(sliceBounds lo hi none n).2.1=((HT.iD n n hi:Nat):Int)/\(sliceBounds lo hi none n).2.2=1:=by
 refine⟨?_,?_,rfl⟩
 . cases lo with
   |none=>simp[sliceBounds,HT.iD]
   |some i=>
    simp only[sliceBounds,HT.iD,Option.getD_none,show(1:Int) > 0 by decide,if_true]
    by_cases h:i<0
    . simp only[h,if_true] <;> omega
    . simp only[h,if_false] <;> omega
 . cases hi with
   |none=>simp[sliceBounds,HT.iD]
   |some i=>
    simp only[sliceBounds,HT.iD,Option.getD_none,show(1:Int) > 0 by decide,if_true]
    by_cases h:i<0
    . simp only[h,if_true] <;> omega
    . simp only[h,if_false] <;> omega
theorem adq (its:List Value)(lo hi:Option Int):slicePick its.toArray lo hi none=((its.drop (HT.iD its.length 0 lo)).take (HT.iD its.length its.length hi - HT.iD its.length 0 lo)).toArray:=by
 obtain⟨h1,h2,h3⟩:=adp lo hi its.toArray.size
 unfold slicePick
 rw[h1,h2,h3]
 simp only[sliceRange_one,pick_run,List.size_toArray] <;> rfl
noncomputable def adt (K:W.Frag):V->Option Int->Option Int->Hp->VK->Prop:=λx lo hi H Q=>∃a xs,x=.ref a/\aL K H a xs/\∀p,H p=none->Q (.ref p) (upd H p (.lst (jX xs lo hi)))
theorem wN:Ge X (adt X.K):=by
 intro pins s σ H x v vl vu lo hi sl Q I rx hs pl pu h
 obtain⟨a,xs,rfl,hx,q⟩:=h
 cases rx
 obtain⟨its,r,ht,hz⟩:=I.list hx
 have hlen:=r.length
 refine⟨"list",_,slot_list_getitem.lookup,ht.isList.typeIs,?_⟩
 refine wpAny_getItem_list_slice ht.isList hs pl pu .none (by simp) ?_ (by rw[List.size_toArray] <;> omega)
 rw[adq,<-hlen]
 refine⟨.ref s.heap.objs.size,_,I.laid (t':=s.toks) (o:=.lst (jX xs lo hi)) (λb ob q=>Heap.get?_push_of_some _ q) (Nat.le_refl _) ?_,rfl,q _ (I.hok.fresh (Nat.le_refl _))⟩
 exact⟨Nat.le_trans (adg xs lo hi) hz,_,0,(r.drop (HT.iD xs.length 0 lo)).take (HT.iD xs.length xs.length hi - HT.iD xs.length 0 lo),Heap.get?_push_size _ rfl⟩
noncomputable def pQ:V->Bool
 | .non=>true
 | .bl _=>true
 | .int _=>true
 | .str _=>true
 |_=>false
noncomputable def pR:V->V->Bool
 | .non,.non=>true
 | .bl a,.bl b=>a == b
 | .bl a,.int b=>(if a then 1 else 0) == b
 | .int a,.bl b=>a == (if b then 1 else 0)
 | .int a,.int b=>a == b
 | .str a,.str b=>a == b
 |_,_=>false
theorem adu {A:Around}{s:Shared}{y x:V}{u v:Value}(ry:RelV y u)(rx:RelV x v)(fy:pQ y=true)(fx:pQ x=true):SeqAt.EqAt A s u v (pR y x):=by
 cases y with
 |non=>
  cases ry
  cases x with
  |non=>cases rx;exact SeqAt.EqAt.same _
  |bl b=>cases rx;exact SeqAt.EqAt.none_bool b
  |int b=>obtain⟨t,rfl⟩:=rx;exact SeqAt.EqAt.none_int b t
  |str b=>obtain⟨t,rfl⟩:=rx;exact SeqAt.EqAt.none_str b t
  |_=>exact absurd (show false=true from fx) Bool.false_ne_true
 |bl a=>
  cases ry
  cases x with
  |non=>cases rx;exact SeqAt.EqAt.bool_none a
  |bl b=>cases rx;exact SeqAt.EqAt.bool_bool a b
  |int b=>obtain⟨t,rfl⟩:=rx;exact SeqAt.EqAt.bool_int a b t
  |str b=>obtain⟨t,rfl⟩:=rx;exact SeqAt.EqAt.bool_str a b t
  |_=>exact absurd (show false=true from fx) Bool.false_ne_true
 |int a=>
  obtain⟨t',rfl⟩:=ry
  cases x with
  |non=>cases rx;exact SeqAt.EqAt.int_none a t'
  |bl b=>cases rx;exact SeqAt.EqAt.int_bool a t' b
  |int b=>obtain⟨t,rfl⟩:=rx;exact SeqAt.EqAt.int_int a t' b t
  |str b=>obtain⟨t,rfl⟩:=rx;exact SeqAt.EqAt.int_str a t' b t
  |_=>exact absurd (show false=true from fx) Bool.false_ne_true
 |str a=>
  obtain⟨t',rfl⟩:=ry
  cases x with
  |non=>cases rx;exact SeqAt.EqAt.str_none a t'
  |bl b=>cases rx;exact SeqAt.EqAt.str_bool a t' b
  |int b=>obtain⟨t,rfl⟩:=rx;exact SeqAt.EqAt.str_int a t' b t
  |str b=>obtain⟨t,rfl⟩:=rx;exact SeqAt.EqAt.str_str a t' b t
  |_=>exact absurd (show false=true from fx) Bool.false_ne_true
 |_=>exact absurd (show false=true from fy) Bool.false_ne_true
noncomputable def jq (x:V) (u:Value):Bool:=match u with
 | .none=>pR .non x
 | .bool b=>pR (.bl b) x
 | .int i _=>pR (.int i) x
 | .str z _=>pR (.str z) x
 |_=>false
theorem Tn {x y:V}{u:Value}(r:RelV y u)(f:pQ y=true):jq x u=pR y x:=by
 cases y with
 |non=>cases r;rfl
 |bl b=>cases r;rfl
 |int i=>obtain⟨t,rfl⟩:=r;rfl
 |str z=>obtain⟨t,rfl⟩:=r;rfl
 |_=>exact absurd (show false=true from f) Bool.false_ne_true
theorem wO {x:V}:∀{xs:List V}{us:List Value},Vals xs us->xs.all pQ=true->us.any (jq x)=xs.any λy=>pR y x
 |_,_,.nil,_=>rfl
 |y::xs,u::us,.cons r t,f=>by
  rw[List.all_cons,Bool.and_eq_true] at f
  rw[List.any_cons,List.any_cons,Tn r f.1,wO t f.2]
theorem wQ {A:Around}{s:Shared}{x:V}{v:Value}(rx:RelV x v)(fx:pQ x=true):∀{xs:List V}{us:List Value},Vals xs us->xs.all pQ=true->∀u∈us,SeqAt.EqAt A s u v (jq x u)
 |_,_,.nil,_=>λu hu=>by cases hu
 |y::xs,u::us,.cons r t,f=>λu' hu=>by
  rw[List.all_cons,Bool.and_eq_true] at f
  rcases List.mem_cons.mp hu with rfl|hu
  . rw[Tn r f.1];exact adu r rx f.1 fx
  . exact wQ rx fx t f.2 u' hu
noncomputable def inV (x:V) (xs:List V):Bool:=xs.any λy=>pR y x
noncomputable def Tp (K:W.Frag) (neg:Bool):R2:=λx y H Q=>∃p xs,y=.ref p/\(aL K H p xs\/aM K H p xs)/\pQ x=true/\xs.all pQ=true/\Q (.bl (if neg then !inV x xs else inV x xs)) H
theorem adv:dJ X (compareOp .In) (Tp X.K false):=by
 intro pins s σ H x y v u Q I rx ry h
 obtain⟨p,xs,rfl,hq,fx,fs,q⟩:=h
 cases ry
 rcases hq with hq|hq
 . obtain⟨its,r,pl,hz⟩:=I.list hq
   refine SeqAt.in_listAt (jq x) pl.isList (λw hw=>wQ rx fx r fs w (by simpa using hw)) ⟨.bl _,H,I,rfl,?_⟩
   rw[show its.toArray.any (jq x)=its.any (jq x) by simp,wO r fs]
   exact q
 . obtain⟨its,r,pl,hz⟩:=I.tuple hq
   refine SeqAt.in_tupleAt (jq x) pl (λw hw=>wQ rx fx r fs w (by simpa using hw)) ⟨.bl _,H,I,rfl,?_⟩
   rw[show its.toArray.any (jq x)=its.any (jq x) by simp,wO r fs]
   exact q
theorem adw:dJ X (compareOp .NotIn) (Tp X.K true):=by
 intro pins s σ H x y v u Q I rx ry h
 obtain⟨p,xs,rfl,hq,fx,fs,q⟩:=h
 cases ry
 rcases hq with hq|hq
 . obtain⟨its,r,pl,hz⟩:=I.list hq
   refine SeqAt.notIn_listAt (jq x) pl.isList (λw hw=>wQ rx fx r fs w (by simpa using hw)) ⟨.bl _,H,I,rfl,?_⟩
   rw[show its.toArray.any (jq x)=its.any (jq x) by simp,wO r fs]
   exact q
 . obtain⟨its,r,pl,hz⟩:=I.tuple hq
   refine SeqAt.notIn_tupleAt (jq x) pl (λw hw=>wQ rx fx r fs w (by simpa using hw)) ⟨.bl _,H,I,rfl,?_⟩
   rw[show its.toArray.any (jq x)=its.any (jq x) by simp,wO r fs]
   exact q
theorem pU:lR X (.builtin "len") (λxs H Q=>∃p ys,xs=[.ref p]/\(aL X.K H p ys\/aM X.K H p ys)/\Q (.int ys.length) H):=by
 intro pins s σ H xs us Q I r h
 obtain⟨p,ys,rfl,hq,q⟩:=h
 obtain⟨u,rfl,rx⟩:=vals1 r
 cases rx
 have hn:=uH
 rcases hq with hq|hq
 . obtain⟨its,r',pl,hz⟩:=I.list hq
   have hlen:=r'.length
   exact Calls.call_len_list pl.isList (by simp only[List.size_toArray] <;> omega) ⟨.int ys.length,H,I.tok _,⟨s.toks+1,by rw[List.size_toArray,hlen]⟩,q⟩
 . obtain⟨its,r',pl,hz⟩:=I.tuple hq
   have hlen:=r'.length
   exact len_tuple pl (by simp only[List.size_toArray] <;> omega) ⟨.int ys.length,H,I.tok _,⟨s.toks+1,by rw[List.size_toArray,hlen]⟩,q⟩
theorem uK:lR X (.builtin "len") (λxs H Q=>∃z,xs=[.str z]/\z.length<=sizeLine/\Q (.int z.length) H):=by
 intro pins s σ H xs us Q I r h
 obtain⟨z,rfl,hz,q⟩:=h
 obtain⟨u,rfl,t,rfl⟩:=vals1 r
 have hn:=uH
 exact len_str (by omega) ⟨.int z.length,H,I.tok _,⟨_,rfl⟩,q⟩
theorem adx:lR X (.type "list") (λxs H Q=>∃p ys,xs=[.ref p]/\(aL X.K H p ys\/aM X.K H p ys)/\∀l,H l=none->Q (.ref l) (upd H l (.lst ys))):=by
 intro pins s σ H xs us Q I r h
 obtain⟨p,ys,rfl,hq,q⟩:=h
 obtain⟨u,rfl,rx⟩:=vals1 r
 cases rx
 have fin:∀(its:List Value),Vals ys its->ys.length<=sizeLine->∀(h':Heap) (c':Nat),(∀b o',s.heap.get? b=some o'->h'.get? b=some o')->
  h'.get? s.heap.objs.size=some { cls:=.type "list",dict:=none,data:=.seq its.toArray c',slots:=#[] }->EP X pins σ Q (.ref s.heap.objs.size) { s with heap:=h' }:=λits r' hz h' c' kp e=>
  ⟨.ref s.heap.objs.size,_,I.laid (t':=s.toks) kp (Nat.le_refl _) (show eG X.prog X.w _ h' _ (.lst ys) from⟨hz,its,c',r',e⟩),rfl,q _ (I.hok.fresh (Nat.le_refl _))⟩
 rcases hq with hq|hq
 . obtain⟨its,r',pl,hz⟩:=I.list hq
   have hlen:=r'.length
   obtain⟨o,ho,hc,n,hd⟩:=pl.isList
   exact call_list_seq p (.inl rfl) ho hc hd (λh' c' kp e=>fin its r' hz h' c' kp e) (by simp only[List.size_toArray] <;> omega)
 . obtain⟨its,r',pl,hz⟩:=I.tuple hq
   have hlen:=r'.length
   obtain⟨o,ho,hc,n,hd⟩:=pl
   exact call_list_seq p (.inr rfl) ho hc hd (λh' c' kp e=>fin its r' hz h' c' kp e) (by simp only[List.size_toArray] <;> omega)
theorem Ao:lR X (.type "tuple") (λxs H Q=>∃p ys,xs=[.ref p]/\((aL X.K H p ys/\∀l,H l=none->Q (.ref l) (upd H l (.tup ys)))\/(aM X.K H p ys/\Q (.ref p) H))):=by
 intro pins s σ H xs us Q I r h
 obtain⟨p,ys,rfl,h⟩:=h
 obtain⟨u,rfl,rx⟩:=vals1 r
 cases rx
 rcases h with⟨hq,q⟩|⟨hq,q⟩
 . obtain⟨its,r',pl,hz⟩:=I.list hq
   have hlen:=r'.length
   refine call_tuple_list pl.isList (λh' kp=>?_) (by simp only[List.size_toArray] <;> omega)
   have I1:Inv X pins σ H { s with heap:=h' }:=I.kept (t':=s.toks) kp
   have I2:Inv X pins σ (upd H h'.objs.size (.tup ys)) { s with heap:=h'.push { cls:=.type "tuple",data:=.seq its.toArray } }:=
    I1.laid (t':=s.toks) (λb o e=>Heap.get?_push_of_some _ e) (Nat.le_refl _) (show eG X.prog X.w _ _ _ (.tup ys) from⟨hz,its,r',IsTup.new _ _⟩)
   exact⟨.ref h'.objs.size,_,I2,rfl,q _ (I1.hok.fresh (Nat.le_refl _))⟩
 . obtain⟨its,r',pl,hz⟩:=I.tuple hq
   exact call_tuple_same pl ⟨.ref p,H,I,rfl,q⟩
noncomputable def Tq (K:W.Frag) (T:String) (x:V) (H:Hp):Prop:=match x with
 | .str _=>T="str"
 | .int _=>T="int"
 | .ref p=>(T="list"/\∃xs,aL K H p xs)\/(T="tuple"/\∃o,K.lookup p=some o/\o.cls=.type "tuple"/\o.dict=none)\/
    (T="dict"/\((∃kvs,H p=some (.dK kvs))\/∃kvs,H p=some (.dT kvs)))\/(T="set"/\∃S n,H p=some (.set S n))
 |_=>False
theorem ady {pins:List (Addr × Obj)}{σ:St}{H:Hp}{s:Shared}{T:String}{x:V}{v:Value}(I:Inv X pins σ H s)(r:RelV x v)(ty:Tq X.K T x H):
 s.TypeIs v T/\∀a,v=.ref a->∃ob,s.heap.get? a=some ob/\ob.dict=none:=by
 cases x with
 |str z=>
  obtain⟨t,rfl⟩:=r
  cases(show T="str" from ty)
  exact⟨typeIs_str s z t,λ_ e=>nomatch e⟩
 |int i=>
  obtain⟨t,rfl⟩:=r
  cases(show T="int" from ty)
  exact⟨typeIs_int s i t,λ_ e=>nomatch e⟩
 |ref p=>
  cases r
  rcases ty with⟨rfl,xs,hq⟩|⟨rfl,o,hk,hc,hd⟩|⟨rfl,hk⟩|⟨rfl,S,n,hk⟩
  . obtain⟨its,_,pl,_⟩:=I.list hq
    refine⟨pl.isList.typeIs,λa e=>?_⟩
    cases e
    obtain⟨o,n,e,c,hd,_⟩:=pl
    exact⟨o,e,hd⟩
  . refine⟨⟨o,I.eH p o hk,hc⟩,λa e=>?_⟩
    cases e
    exact⟨o,I.eH _ o hk,hd⟩
  . have z:∃o,s.heap.get? p=some o/\o.ExactDict:=by
     rcases hk with⟨kvs,hk⟩|⟨kvs,hk⟩
     . obtain⟨_,_,_,_,o,_,_,e,ex,_⟩:=I.hok p _ hk
       exact⟨o,e,ex⟩
     . obtain⟨_,_,_,_,o,_,_,e,ex,_⟩:=I.hok p _ hk
       exact⟨o,e,ex⟩
    obtain⟨o,e,ex⟩:=z
    refine⟨⟨o,e,ex.1⟩,λa e2=>?_⟩
    cases e2
    exact⟨o,e,ex.2.1⟩
  . obtain⟨o,_,_,_,e,ex,_⟩:=I.hok p _ hk
    refine⟨⟨o,e,ex.1⟩,λa e2=>?_⟩
    cases e2
    exact⟨o,e,ex.2.1⟩
 |_=>exact False.elim ty
noncomputable def tBM (K:W.Frag) (T:String) (r:V->List V->Hp->VK->Prop) (to:TE) (t:TA):TE:=λσ H Q=>to σ H λx H1=>Tq K T x H1/\t σ H1 λxs H2=>r x xs H2 Q
variable {o e:Expr}{es:List Expr}{to:TE}{t:TA}{name:Str}{apos cpos:Pos}{T id:String}{r:V->List V->Hp->VK->Prop}
theorem iZ (pa:PlainAttrs T)(slot:Slot T name id)(hty:typeOf (.builtin id)=pure (.type "method_descriptor"))(hm:Ti X id r)(ho:PE X o to)(ha:PA X (e::es) t)
 (hbase:attributeBase o name X.env (eval o X.env)=eval o X.env:=by rfl)
 (hfew:((backTo cpos (starEach (e::es) X.env)).all (λx=> !x.1) && (backToKw cpos (keywordEach [] X.env)).all (λx=>x.1.isSome)
   && decide ((e::es).length+([]:List Keyword).length+(if([]:List Keyword).isEmpty then 0 else 1)<30))=true:=by rfl)
 (hline:(apos.endLine == cpos.line)=true:=by rfl) (hs:starEach (e::es) X.env=(false,eval e X.env)::starEach es X.env:=by rfl) (hplain:(backTo cpos (starEach es X.env)).any (·.1)=false:=by rfl):
 PE X (.Call (.Attribute o name apos) (e::es) [] cpos) (tBM X.K T r to t):=by
 intro pins s σ H Q I h
 refine wpAny_Call_method_late hbase hfew hline rfl (aP (ho pins s σ H _ I h) λv s1 ⟨x,H1,I1,r1,ty,q1⟩=>?_)
 obtain⟨h1,h2⟩:=ady I1 r1 ty
 refine⟨T,id,pa,slot,hty,h1,h2,?_⟩
 have hA:=ha cpos pins s1 σ H1 _ I1 q1
 rw[hs] at hA ⊢
 refine Calls.callWith_builtin (by show(false || (backTo cpos (starEach es X.env)).any (·.1))=false;rw[hplain] <;> rfl) (Calls.evalArgs_plain ?_)
 exact aP hA λus s2 ⟨vs,H2,I2,r2,q2⟩=>hm pins s2 σ H2 x vs v us Q I2 r1 r2 q2
/- xs.append(e),list.index on a module's tuple .. are Ti facts of 06m -/
end
noncomputable def Aq (X:Cx) (id:String) (r:V->List V->Hp->VK->Prop):Prop:=
 ∀(pins:List (Addr × Obj)) (s:Shared) (σ:St) (H:Hp) (x:V) (xs:List V) (v:Value) (us:List Value) (Q:VK),Inv X pins σ H s->RelV x v->Vals xs us->r x xs H Q->
  wpAny (model X.prog X.w) X.A (call (.builtin id) (v::us)) (EP X pins σ Q) X.xe s
theorem Vals.one:∀{x:V}{us:List Value},Vals [x] us->∃u,us=[u]/\RelV x u
 |_,_,.cons r .nil=>⟨_,rfl,r⟩
section
variable {X:Cx}{pins:List (Addr × Obj)}{σ:St}{H:Hp}{s:Shared}{l b:Addr}{xs ys zs:List V}
theorem Inv.Tt {its its':List Value}{n:Nat}{f:Array Value->Array Value}{t':Nat}(I:Inv X pins σ H s)(hH:H l=some (.lst xs))
 (e:s.heap.get? l=some { cls:=.type "list",data:=.seq its.toArray n }) (hf:f its.toArray=its'.toArray) (hv:Vals ys its') (hz:ys.length<=sizeLine):
 Inv X pins σ (upd H l (.lst ys)) { s with heap:=s.heap.update l (Obj.mapSeq f),toks:=t' }:=by
 have q:=PySem.IsL.update e f
 rw[hf] at q
 refine I.write (x:=l) (e:=l) (by rw[hH];exact trivial) (.inl rfl) (λb' u hb hu=>(Heap.get?_update_other s.heap (Obj.mapSeq f) (Ne.symm hb)).trans hu) ⟨_,q⟩ ?_
 exact⟨hz,its',_,hv,q⟩
theorem Inv.adA {its:List Value}{t':Nat}(I:Inv X pins σ H s)(hv:Vals ys its)(hz:ys.length<=sizeLine):
 Inv X pins σ (upd H s.heap.objs.size (.lst ys)) { s with heap:=s.heap.push { cls:=.type "list",data:=.seq its.toArray },toks:=t' }:=
 I.laid (λ_ _ q=>Heap.get?_push_of_some _ q) (Nat.le_refl _) ⟨hz,its,0,hv,Heap.get?_push_size _ rfl⟩
theorem Inv.fresh (I:Inv X pins σ H s):H s.heap.objs.size=none:=I.hok.fresh (Nat.le_refl _)
theorem Inv.wR (I:Inv X pins σ H s)(hH:H l=some (.lst xs)):xs.length<=sizeLine/\∃(its:List Value) (n:Nat),Vals xs its/\xs.length=its.length/\s.heap.get? l=some { cls:=.type "list",data:=.seq its.toArray n }:=by
 obtain⟨z,its,n,r,e⟩:=I.hok l _ hH
 exact⟨z,its,n,r,r.length,e⟩
theorem adB {n:Nat}(h:n<=sizeLine):Builtin.List.listTooLong n=false:=by
 unfold Builtin.List.listTooLong
 exact decide_eq_false (by omega)
end
section
variable {X:Cx}
noncomputable def Tv:V->List V->Hp->VK->Prop:=λx vs H Q=>∃l xs y,x=.ref l/\vs=[y]/\H l=some (.lst xs)/\xs.length<sizeLine/\Q .non (upd H l (.lst (xs++[y])))
theorem k_:Aq X "list.append" Tv:=by
 intro pins s σ H x vs v us Q I rx rv h
 obtain⟨l,xs,y,rfl,rfl,hH,hz,q⟩:=h
 cases rx
 obtain⟨u,rfl,ru⟩:=rv.one
 obtain⟨z,its,n,r,hl,e⟩:=I.wR hH
 refine call_meets F.slot_list_append ⟨_,e,rfl⟩ F.entry_list_append (F.args_list_append_2 _ _) (PySem.list_append l its.toArray n u (by rw[List.size_toArray];omega)) ⟨e,?_⟩
 refine⟨.non,_,I.Tt (its':=its++[u]) hH e (by simp) (r.append (.cons ru .nil)) ?_,rfl,q⟩
 rw[List.length_append,List.length_singleton]
 omega
noncomputable def adC:V->List V->Hp->VK->Prop:=λx vs H Q=>∃l b xs zs,x=.ref l/\vs=[.ref b]/\H l=some (.lst xs)/\H b=some (.lst zs)/\xs.length+zs.length<=sizeLine/\Q .non (upd H l (.lst (xs++zs)))
theorem Tw:Aq X "list.extend" adC:=by
 intro pins s σ H x vs v us Q I rx rv h
 obtain⟨l,b,xs,zs,rfl,rfl,hH,hB,hz,q⟩:=h
 cases rx
 obtain⟨u,rfl,ru⟩:=rv.one
 cases ru
 obtain⟨z,its,n,r,hl,e⟩:=I.wR hH
 obtain⟨z2,its2,n2,r2,hl2,e2⟩:=I.wR hB
 have hsz:its.toArray.size+its2.toArray.size<=sizeLine:=by rw[List.size_toArray,List.size_toArray];omega
 have adD:¬(!its.toArray.isEmpty && Builtin.List.listTooLong (its.toArray.size+its2.toArray.size))=true:=by
  rw[adB hsz,Bool.and_false]
  exact Bool.false_ne_true
 refine call_meets F.slot_list_extend ⟨_,e,rfl⟩ F.entry_list_extend (F.args_list_extend_2 _ _)
  (AutoSeq1.list_extend_list_list_0 l its.toArray n b its2.toArray n2 adD (by rw[List.size_toArray];omega) (by omega)) ⟨e,e2,?_⟩
 refine⟨.non,_,I.Tt (its':=its++its2) hH e (by simp) (r.append r2) ?_,rfl,q⟩
 rw[List.length_append]
 omega
noncomputable def Tz:R2:=λx y H Q=>∃l b xs zs,x=.ref l/\y=.ref b/\H l=some (.lst xs)/\H b=some (.lst zs)/\xs.length+zs.length<=sizeLine/\∀p,H p=none->Q (.ref p) (upd H p (.lst (xs++zs)))
theorem eO:dJ X (binaryOp .Add) Tz:=by
 intro pins s σ H x y v u Q I rx ry h
 obtain⟨l,b,xs,zs,rfl,rfl,hH,hB,hz,q⟩:=h
 cases rx
 cases ry
 obtain⟨z,its,n,r,hl,e⟩:=I.wR hH
 obtain⟨z2,its2,n2,r2,hl2,e2⟩:=I.wR hB
 refine PySem.P.add_list e e2 ?_ (by rw[List.size_toArray,List.size_toArray];omega)
 have ea:its.toArray++its2.toArray=(its++its2).toArray:=by simp
 rw[ea]
 exact⟨.ref _,_,I.adA (t':=s.toks) (r.append r2) (by rw[List.length_append];omega),rfl,q _ I.fresh⟩
end
section
variable {prog:Program}{w:World}{A:Around}{E:Value->Shared->Prop}{s:Shared}
end
section
variable {X:Cx}
end
section
variable {κ:Type} [DecidableEq κ]
end
noncomputable abbrev KT (H:Hp):List (List Key × V)->List (List Key × Addr × Value)->Prop:=Paired λp q=>p.1=q.1/\H q.2.1=some (.tup (p.1.map kV))/\RelV p.2 q.2.2
section
variable {P:Program}{w:World}{H:Hp}{h:Heap}{a:Addr}
end
section
variable {X:Cx}{pins:List (Addr × Obj)}{σ:St}{H:Hp}{s:Shared}{a:Addr}{y v:V}{u r:Value}{o:Option V}{A:Around}{E:Value->Shared->Prop}
end
section
variable {X:Cx}{pins:List (Addr × Obj)}{σ:St}{H:Hp}{s:Shared}{a:Addr}{kvs:List (Key × V)}{k:Key}{u:Value}{A:Around}{E:Value->Shared->Prop}
end
section
variable {X:Cx}{o i e value:Expr}{pos pos' tpos:Pos}{td ty tv:TE}
end
section
variable {X:Cx}{pos:Pos}
end
section
variable {X:Cx}{pins:List (Addr × Obj)}{σ:St}{H:Hp}{s:Shared}{a:Addr}{y d:V}{u r:Value}{o:Option V}{A:Around}{E:Value->Shared->Prop}
end
section
variable {X:Cx}{o e f:Expr}{apos cpos:Pos}{td ty tx:TE}
end
section
variable {X:Cx}{pins:List (Addr × Obj)}{σ:St}{H:Hp}{s:Shared}{a:Addr}{kvs:List (Key × V)}{A:Around}{E:Value->Shared->Prop}
end
section
variable {X:Cx}{pins:List (Addr × Obj)}{σ:St}{H:Hp}{s:Shared}{a:Addr}{y:V}{u:Value}{A:Around}{E:Value->Shared->Prop}
end
end L2
namespace TJ
open PySem PySem.W PySem.Calls PyProof.Rows
theorem adE {P:Params}{h:Heap}:∀(ns:List Int) (vs:List Value),WellAll P h vs (ns.map WData.int)->IntsAre vs ns:=by
 intro ns
 induction ns with
 |nil=>
  intro vs w
  rw[List.map_nil] at w
  cases w
  exact .nil
 |cons n ns ih=>
  intro vs w
  rw[List.map_cons] at w
  cases w with
  |cons a b=>
   cases a
   exact .cons _ _ (ih _ b)
theorem adF {l:OpenLaw}{n:Nat}(hn:l.most=some n){P:Params}{h:Heap}{args:List WData}{vals:List Value}
 (hpre:l.row.toRowW.claim.pre args=true) (hwl:WellAll P h vals args):
 ∃a vs ns,vals=[Value.ref a]/\args=[WData.list (ns.map WData.int)]/\h.get? a=some { cls:=.type "list",data:=.seq vs.toArray }/\IntsAre vs ns/\ns.length<=n:=by
 have hsh:WShape.hasAll [] args [.list .int]=true:=(pre_splitW hpre).1
 have hc:l.pre.holds [] { args:=args }=true:=(pre_splitW hpre).2
 obtain⟨d,r,rfl,h1,h2⟩:=hasAllW_cons hsh
 obtain rfl:=hasAllW_nil h2
 obtain⟨xs,rfl,h3⟩:=hasW_list h1
 obtain⟨ns,rfl⟩:=items_int h3
 have hlen:ns.length<=n:=by
  unfold OpenLaw.pre at hc
  have h4:(WTm.not (.lt (.lit (.int (n:Int))) (.len (.arg 0)))).holds [] { args:=[.list (ns.map .int)] }=true:=by
   have h4:=(holds_andW hc).1
   rw[hn] at h4
   exact h4
  have h5:=condW_of h4 (w_not (w_lt w_lit (w_len_list (w_arg rfl))))
  rw[List.length_map] at h5
  refine Nat.le_of_not_lt λq=>?_
  have q':(n:Int)<((ns.length:Nat):Int):=by omega
  first
   |(rw[decide_eq_true q'] at h5;exact absurd h5 (by decide))
   |(simp at h5;omega)
 cases hwl with
 |cons w1 w2=>
  cases w2
  cases w1 with
  |list ho hall=>exact⟨_,_,ns,rfl,rfl,ho,adE ns _ hall,hlen⟩
theorem adG (l:OpenLaw)(args:List WData):l.row.toRowW.claim.post args (.bool true) args=true:=
 postW_of (r:=l.row.toRowW) (X:=(true == true))
  (show WShape.has [] (.bool true) .bool=true by first|rfl|decide|simp[WShape.has,WShape.arms,WShape.armsAll])
  (show(WTm.eq .res (.lit (.bool true))).value [] { args:=args,res:=some (.bool true),after:=args }=some (.bool (true == true)) from w_eq_bool (w_res rfl) w_lit) rfl
theorem adH {l:OpenLaw}{n:Nat}{q:Program}{loose:List Str}{XP:(Str->Option Value)->Heap->Prop}{YP:World->Heap->Prop}{d:DefRec}
 (hn:l.most=some n) (hdf:d.params.defaults=[])
 (call:∀(w:World) (s₀ s₁:Shared) (mg mb:Str->Option Value) (fa:Addr) (o:Obj) (pm cd doc:Value) (a:Addr) (vs:List Value) (ns:List Int),
   Ground q loose [] XP w s₀ mg mb s₁.heap->YP w s₁.heap->
   s₁.heap.get? fa=some o->o.data=.func (docDef d.name d.params d.body d.scope pm cd doc)->s₁.heap.CodeRec cd d.name->mg d.name=some (.ref fa)->
   s₁.heap.get? a=some { cls:=.type "list",data:=.seq vs.toArray }->IntsAre vs ns->ns.length<=n->s₁.gens=#[]->
   codeAny (model l.prog w) callerA (.call (.ref fa) ⟨[.ref a],[]⟩) (λr s'=>r=.ok (.ret (.bool true))/\OldK s₁.heap s'.heap/\s'.os=s₁.os/\AllBare s'.gens) s₁):
 WalkO q loose XP YP l.row.toRowW d [] (λf vs=>PySem.call f vs):=by
 intro w s₀ s₁ mg mb G Y fa o pm cd doc dV kV ho hd hcd hD hmg hg args vals as hpre hlay hrd hwl hlo
 obtain rfl:dV=.none:=Dflts.none hD hdf
 obtain rfl:kV=.none:=Dflts.noKw hD
 obtain⟨a,vs,ns,rfl,rfl,hobj,hints,hlen⟩:=adF hn hpre hwl
 refine enter_call (codeAny_mono (call w s₀ s₁ mg mb fa o pm cd doc a vs ns G Y ho (fd_plain hd) hcd hmg hobj hints hlen hg) λr s' hq=>?_)
 obtain⟨rfl,h2,h3,h4⟩:=hq
 exact⟨.inl ⟨.bool true,.bool true,[],rfl,λ_=>rfl,.bool true,adG l _,λ_=>⟨List.Pairwise.nil,λ_ hm=>(nomatch hm)⟩⟩,h2,h3,h4⟩
section
variable {prog:Program}{w:World}{A:Around}{E:Value->Shared->Prop}{s:Shared}{K:Frag}
end
end TJ
namespace L2
open PySem PySem.Spec PyProof.Rows
theorem TQ:∀{vs:List Value}{ns:List Int},IntsAre vs ns->Vals (ns.map V.int) vs
 |_,_,.nil=>.nil
 |_,_,.cons n t h=>.cons ⟨t,rfl⟩ (TQ h)
noncomputable def bL (s:Stmt):Arguments:=match s with
 | .FunctionDef _ a _ _ _ _ _ _ _ _=>a
 |_=>{ posonlyargs:=[],args:=[],vararg:=none,kwonlyargs:=[],kw_defaults:=[],kwarg:=none,defaults:=[] }
noncomputable def bI (s:Stmt):List Stmt:=match s with
 | .FunctionDef _ _ b _ _ _ _ _ _ _=>b
 |_=>[]
noncomputable def aN (s:Stmt):Scope:=match s with
 | .FunctionDef _ _ _ _ _ _ sc _ _ _=>sc
 |_=>{ kind:=.function,names:=[],isGenerator:=false,isCoroutine:=false }
noncomputable abbrev aO:iW:=λ_ _ _ _ _ _=>False
noncomputable abbrev E0:XK:=λ_ _ _=>False
theorem aY {X:Cx}:Passes aO X E0:=λ_ _ _ _ _ _ _ h=>h.elim
structure jZ (K:W.Frag) (x qual:Str) (st:Stmt) (f:Addr) (fd:FuncData):Prop where
 ex:∃(oc:Value) (od:Option Addr) (kV doc pm:Value) (an:Option Addr) (cdv ct:Value) (osl:Array (Option Value)),
  fd=W.fnOf x qual (bL st) (bI st) (aN st) .none kV doc pm an cdv ct/\K.lookup f=some ⟨oc,od,.func fd,osl⟩/\W.codeIn K cdv qual=true
 kp:W.keepIn K (.ref f)=true
variable {P:Program}{w:World}{K:W.Frag}{mg:Str->Option Value}{base:Heap}
theorem jZ.ok {x qual:Str}{st:Stmt}{f:Addr}{fd:FuncData}{N ps:List Str}{k:Nat}{sp:Sp}(F:jZ K x qual st f fd)(S:bR N ps (aN st))(len:∀vs H Q E,sp vs H Q E->vs.length=ps.length)
 (hbody:∀(cdv:Value) (A:Around) (outer:List Env) (s:Shared) (H:Hp) (vs:List V) (Q:VK) (E:XK),cW k (A.deeper (envOfC qual (aN st) s.heap.objs.size f cdv))->sp vs H Q E->
   ∃t,gU (fZ aO P w K mg base N qual (aN st) f cdv A outer s H E).ur (bI st) t/\t { nx:=λ_ H'=>Q .non H',rt:=Q } (start N vs) H):aB P w K mg base aO (k+1) f fd ps sp:=by
 obtain⟨oc,od,kV,doc,pm,an,cdv,ct,osl,rfl,lk,hcd⟩:=F.ex
 refine Ak lk hcd S len λA outer s H vs Q E hr hsp=>?_
 obtain⟨t,h,q⟩:=hbody cdv A outer s H vs Q E hr hsp
 exact⟨t,h.ur,q⟩
theorem jZ.binds {x qual:Str}{st:Stmt}{f:Addr}{fd:FuncData}{ps:List Str}(F:jZ K x qual st f fd)
 (h:∀(kV doc pm:Value) (an:Option Addr) (cdv ct:Value) (us:List Value),us.length=ps.length->bindArgs (W.fnOf x qual (bL st) (bI st) (aN st) .none kV doc pm an cdv ct) ⟨us,[]⟩=pure (ps.zip us)):Binds K fd ps []:=by
 obtain⟨oc,od,kV,doc,pm,an,cdv,ct,osl,rfl,lk,hcd⟩:=F.ex
 exact .all (h kV doc pm an cdv ct)
theorem adI {x qual:Str}{st:Stmt}{f:Addr}{oc:Value}{od an:Option Addr}{osl:Array (Option Value)}{kV doc pm cdv ct:Value}(l:K.lookup f=some ⟨oc,od,.func (W.fnOf x qual (bL st) (bI st) (aN st) .none kV doc pm an cdv ct),osl⟩)
 (c:W.codeIn K cdv qual=true) (k:W.keepIn K (.ref f)=true):jZ K x qual st f (W.fnOf x qual (bL st) (bI st) (aN st) .none kV doc pm an cdv ct):=⟨⟨oc,od,kV,doc,pm,an,cdv,ct,osl,rfl,l,c⟩,k⟩
theorem TV {A:Around}{k:Nat}(hr:cW k A):A.units+1<cLine:=Nat.lt_of_le_of_lt (Nat.add_le_add_left (by decide:1<=64) _) hr.units
theorem wU {n:Nat}(h:n<=1000):n<sizeLine:=Nat.lt_of_le_of_lt h (by decide)
section
variable {X:Cx}
theorem pv (i:Nat){x:Str}{pos:Pos}(hN:X.N[i]? =some x:=by rfl)(hv:z9 X.env.scope x:=by first|exact Or.inl rfl|exact Or.inr (Or.inl rfl)|exact Or.inr (Or.inr rfl))(hd:(x == ("__debug__":Str))=false:=by decide)
 (hcd:(x == ("__classdict__":Str))=false:=by decide):PE X (.Name x pos) (jo i):=ace hN hv hd hcd
end
theorem aZ {A B:Prop}(h:B):if false=true then A else B:=by
 rw[if_neg Bool.false_ne_true]
 exact h
theorem bT {A B:Prop}(h:A):if true=true then A else B:=by
 rw[if_pos rfl]
 exact h
theorem bN {c A B:Prop} [Decidable c](h1:c->A)(h2:¬c->B):if c then A else B:=by
 by_cases h:c
 . rw[if_pos h]
   exact h1 h
 . rw[if_neg h]
   exact h2 h
noncomputable def Same (H H':Hp):Prop:=∀b o,H b=some o->H' b=some o
theorem Same.refl (H:Hp):Same H H:=λ_ _ h=>h
theorem Same.trans {H H1 H2:Hp}(a:Same H H1)(b:Same H1 H2):Same H H2:=λc o h=>b c o (a c o h)
section
variable {X:Cx}
end
section
variable {κ:Type} [DecidableEq κ]
end
theorem TX {g:Str->NameKind->NameKind}{x:Str}:∀names:List (Str × NameKind),
 (names.map λy=>(y.1,g y.1 y.2)).lookup x=(names.lookup x).map (g x)
 |[]=>rfl
 |(n,k)::r=>by
  show List.lookup x ((n,g n k)::_)=_
  rw[List.lookup_cons,List.lookup_cons,TX r]
  cases hx:x == n with
  |true=>rw[eq_of_beq hx];rfl
  |false=>rfl
noncomputable def nu (env:Env) (n:Str) (k:NameKind):NameKind:=
 if(k == .free && env.scope.kind == .function && env.kindOf n == some .cell)=true then .cell else k
theorem TY (scope:Scope)(env:Env)(x:Str):
 (relabel scope env).names.lookup x=(scope.names.lookup x).map (nu env x):=by
 rw[<-TX (g:=nu env) scope.names]
 show List.lookup x (scope.names.map _)=_
 congr 1
 apply List.map_congr_left
 rintro⟨n,k⟩ _
 show(if _ then _ else _)=(n,nu env n k)
 unfold nu
 split <;> rfl
theorem adJ {env:Env}{x:Str}{k:NameKind}(h:nu env x k=.local):k=.local:=by
 unfold nu at h
 split at h
 . cases h
 . exact h
theorem adK {env:Env}{x:Str}{k:NameKind}(h:nu env x k=.cell):k=.free\/k=.cell:=by
 unfold nu at h
 split at h
 . rename_i c
   left
   simp only[Bool.and_eq_true] at c
   exact eq_of_beq c.1.1
 . exact .inr h
theorem adL {env:Env}{x:Str}{k:NameKind}(h:nu env x k=.free):k=.free:=by
 unfold nu at h
 split at h
 . cases h
 . exact h
theorem Gh {env:Env}:∀(names:List (Str × NameKind)) (acc:List (Str × Addr)),(∀y∈names,y.2=.free->∃c,env.cells.lookup y.1=some c)->
 (∀x c,acc.lookup x=some c->env.cells.lookup x=some c)->
 ∃cl:List (Str × Addr),(forIn names acc λy cs=>if(y.2 == NameKind.free)=true then(do let a <-cellOf env y.1;pure (ForInStep.yield ((y.1,a)::cs))) else pure (ForInStep.yield cs))=(pure cl:Sem _)/\
  (∀x c,cl.lookup x=some c->env.cells.lookup x=some c)/\(∀x,((x,NameKind.free)∈names\/(acc.lookup x).isSome=true)->cl.lookup x=env.cells.lookup x)
 |[],acc,_,ha=>⟨acc,rfl,ha,λx hx=>by
    rcases hx with hx|hx
    . cases hx
    . obtain⟨c,e⟩:=Option.isSome_iff_exists.mp hx
      rw[e,ha x c e]⟩
 |(n,k)::r,acc,hn,ha=>by
  by_cases hk:k=.free
  . subst hk
    obtain⟨c,e⟩:=hn (n,.free) List.mem_cons_self rfl
    have e:env.cells.lookup n=some c:=e
    have ha':∀x d,((n,c)::acc).lookup x=some d->env.cells.lookup x=some d:=λx d h=>by
     rw[List.lookup_cons] at h
     cases hx:x == n with
     |true=>
      rw[hx] at h
      cases h
      rw[eq_of_beq hx];exact e
     |false=>
      rw[hx] at h
      exact ha x d h
    obtain⟨cl,h1,h2,h3⟩:=Gh r ((n,c)::acc) (λy hy=>hn y (List.mem_cons_of_mem _ hy)) ha'
    refine⟨cl,?_,h2,λx hx=>h3 x ?_⟩
    . rw[List.forIn_cons]
      have ec:cellOf env n=pure c:=by unfold cellOf;rw[e]
      simp only[beq_self_eq_true,if_true,ec,pure_bind]
      exact h1
    . rcases hx with hx|hx
      . rcases List.mem_cons.mp hx with q|q
        . right
          cases q
          rw[List.lookup_cons,beq_self_eq_true];rfl
        . exact .inl q
      . right
        rw[List.lookup_cons]
        cases x == n with
        |true=>rfl
        |false=>exact hx
  . obtain⟨cl,h1,h2,h3⟩:=Gh r acc (λy hy=>hn y (List.mem_cons_of_mem _ hy)) ha
    refine⟨cl,?_,h2,λx hx=>h3 x ?_⟩
    . rw[List.forIn_cons]
      have eb:(k == NameKind.free)=false:=by simpa using hk
      simp only[eb,Bool.false_eq_true,if_false,pure_bind]
      exact h1
    . rcases hx with hx|hx
      . rcases List.mem_cons.mp hx with q|q
        . cases q;exact absurd rfl hk
        . exact .inl q
      . exact .inr hx
theorem Gi {scope:Scope}{env:Env}(hn:∀y∈scope.names,y.2=.free->∃c,env.cells.lookup y.1=some c):
 ∃cl:List (Str × Addr),closureFor scope env=pure cl/\(∀x c,cl.lookup x=some c->env.cells.lookup x=some c)/\(∀x,(x,NameKind.free)∈scope.names->cl.lookup x=env.cells.lookup x):=by
 obtain⟨cl,h1,h2,h3⟩:=Gh scope.names [] hn (λx c h=>by cases h)
 refine⟨cl,?_,h2,λx hx=>h3 x (.inl hx)⟩
 unfold closureFor
 have e:(forIn scope.names ([]:List (Str × Addr)) λy cs=>do
  let mut cs:=cs
  match y with
  |(name,kind)=>if(kind == NameKind.free)=true then cs:=(name,<-cellOf env name)::cs
  pure (ForInStep.yield cs))=(pure cl:Sem _):=by
  rw[<-h1]
 first
  |exact(by simpa using e)
  |(show(forIn scope.names ([]:List (Str × Addr)) _ >>= λcs=>pure cs)=_;rw[bind_pure];exact e)
structure jr (X:Cx) (own:List Str) (scope:Scope):Prop where
 kind:scope.kind=.function
 cell:∀y∈scope.names,y.2≠ .cell
 names:∀y∈scope.names,y.2=.local->scope.names.lookup y.1=some .local
 free:∀y∈scope.names,y.2=.free->X.env.kindOf y.1=some .cell\/X.env.kindOf y.1=some .free
 nd:(own++X.N).Nodup
 outer:∀x∈X.N,scope.names.lookup x≠some .local
noncomputable def cX (X:Cx) (own:List Str) (scope:Scope) (cl:List (Str × Addr)) (C:Addr) (fp:List Addr) (s₂:Shared) (H₂:Hp):Cx:=
 { X with N:=own++X.N,s₀:=s₂,H₀:=H₂,env:=compEnvC scope cl C X.env,outer:=X.stack,ex:=fp,fn:=λ_=>false,pn:=[],xe:=λ_ _=>False }
noncomputable def wV (X:Cx) (ifs:List Expr) (t:TT):Prop:=
 ∀(pins:List (Addr × Obj)) (s:Shared) (σ:St) (H:Hp) (Q:Bool->Hp->Prop),Inv X pins σ H s->t σ H Q->
  wpAny (model X.prog X.w) X.A (forIn ifs true λc r=>if r=true then do let ok <-isTrue c X.env (eval c X.env);pure (ForInStep.yield ok) else pure (ForInStep.yield r)) (TP X pins σ Q) X.xe s
noncomputable def Ar:TT:=λ_ H Q=>Q true H
theorem T3 {X:Cx}:wV X [] Ar:=λpins s σ H Q I h=>wpAny_tests_nil ⟨H,I,h⟩
noncomputable def T5 (k:Nat) (wi:TI) (g:TG) (tt:TT) (te:TE):TE:=λσ H Q=>wi σ H λJ H1=>
 ∃W:Nat->Nat->List V->Hp->Prop,(∃m,W 0 m [] H1)/\∀i m ys H,W i m ys H->
  (J.stop i H/\∀p,H p=none->Q (.ref p) (upd H p (.lst ys)))\/
  (J.go i H/\ys.length<sizeLine/\∀x H',J.pL i H x H'->g x (List.replicate k none++σ) H' λσ2 H2=>σ2.drop k=σ/\
    tt σ2 H2 λb H3=>if b=true then te σ2 H3 λy H4=>∃m',m'<m/\W (i+1) m' (ys++[y]) H4 else ∃m',m'<m/\W (i+1) m' ys H3)
section
variable {prog:Program}{w:World}{A:Around}{R:Result->Shared->Prop}{s:Shared}
theorem adM {elt target iter:Expr}{ifs:List Expr}{scope:Scope}{pos:Pos}{it acc:Value}{env:Env}(I:Nat->Shared->Prop)
 (turn:∀n s,I n s->wpAny (model prog w) A (pyNext it) (λr s₁=>
   match r with
   |none=>R (.ok .next) s₁
   |some v=>wpAny (model prog w) A (letOwnedTupleGo target it v) (λ_ s₂=>wpAny (model prog w) A (assign target env v) (λ_ s₃=>
     wpAny (model prog w) A (forIn ifs true λc r=>if r=true then do let ok <-isTrue c env (eval c env);pure (ForInStep.yield ok) else pure (ForInStep.yield r)) (λok s₄=>
      if ok=true then wpAny (model prog w) A (eval elt env) (λx s₅=>
       wpAny (model prog w) A (call (.builtin "list.append") [acc,x]) (λ_ s₆=>∃m,m<n/\I m s₆) (λ_ _=>False) s₅) (λ_ _=>False) s₄
      else ∃m,m<n/\I m s₄) (λ_ _=>False) s₃) (λ_ _=>False) s₂) (λ_ _=>False) s₁) (λ_ _=>False) s)
 (n:Nat) (h:I n s):
 codeAny (model prog w) A (.compLoop (.ListComp elt [⟨target,iter,ifs,0⟩] scope pos) 0 it acc env) R s:=by
 refine codeAny_loop rfl I (λn s hI=>?_) n h
 show wpAny _ A ((compTurn _ 0 it acc env).onRaise _) _ _ s
 refine wpAny_noted ?_
 rw[compTurn_list]
 have no:∀{α:Type} {t:Sem α} {Q Q':α->Shared->Prop} {E:Value->Shared->Prop} {s:Shared},wpAny (model prog w) A t Q (λ_ _=>False) s->(∀a s,Q a s->Q' a s)->wpAny (model prog w) A t Q' E s:=
  λh k=>wpAny_mono h k λ_ _ z=>z.elim
 refine wpAny_bind (wpAny_standAt (wpAny_bind (no (turn n s hI) λr s₁ h₁=>?_)))
 cases r with
 |none=>exact wpAny_pure h₁
 |some v=>
  refine wpAny_bind (no h₁ λ_ s₂ h₂=>?_)
  refine wpAny_bind (no h₂ λ_ s₃ h₃=>wpAny_bind (no h₃ λok s₄ h₄=>?_))
  cases ok with
  |false=>exact wpAny_pure ⟨rfl,h₄⟩
  |true=>
   refine wpAny_bind (wpAny_bind (no h₄ λx s₅ h₅=>?_))
   exact wpAny_bind (no h₅ λ_ s₆ h₆=>wpAny_pure (wpAny_pure ⟨rfl,h₆⟩))
end
noncomputable abbrev dW (us:List Value) (n:Nat):Obj:={ cls:=.type "list",data:=.seq us.toArray n }
section
variable {X:Cx}{own:List Str}{scope:Scope}
theorem jr.cells (S:jr X own scope){pins:List (Addr × Obj)}{σ:St}{H:Hp}{s:Shared}(I:Inv X pins σ H s):
 ∀y∈scope.names,y.2=.free->∃c,X.env.cells.lookup y.1=some c:=λy hy hf=>I.ok.has y.1 (S.free y hy hf)
theorem jr.freeOf (S:jr X own scope){x:Str}(h:(relabel scope X.env).names.lookup x=some .cell\/(relabel scope X.env).names.lookup x=some .free):(x,NameKind.free)∈scope.names:=by
 rw[TY] at h
 cases e:scope.names.lookup x with
 |none=>rw[e] at h;rcases h with h|h <;> cases h
 |some k=>
  rw[e] at h
  have hm:(x,k)∈scope.names:=PySem.mem_of_lookup e
  have hk:k=.free:=by
   rcases h with h|h
   . rcases adK (Option.some.inj h) with q|q
     . exact q
     . exact absurd q (S.cell _ hm)
   . exact adL (Option.some.inj h)
  rw[<-hk];exact hm
theorem jr.adN (S:jr X own scope){x:Str}(hx:x∈X.N):(relabel scope X.env).names.lookup x≠some .local:=λh=>by
 rw[TY] at h
 cases e:scope.names.lookup x with
 |none=>rw[e] at h;cases h
 |some k=>
  rw[e] at h
  have:=adJ (Option.some.inj h)
  subst this
  exact S.outer x hx e
theorem Gj {k:Nat}{σ:St}{i:Nat}{v:V}(h:(List.replicate k none++σ)[i]? =some (some v)):k<=i/\σ[i - k]? =some (some v):=by
 by_cases hi:i<k
 . rw[List.getElem?_append_left (by simpa using hi),List.getElem?_replicate] at h
   split at h <;> cases h
 . refine⟨Nat.le_of_not_lt hi,?_⟩
   rw[List.getElem?_append_right (by simpa using hi)] at h
   simpa using h
theorem Inv.block {pins:List (Addr × Obj)}{σ:St}{H:Hp}{s:Shared}{fp:List Addr}{cl:List (Str × Addr)}{C D:Addr}{h₁:Heap}{m:Str->Option Value}{t':Nat}{us:List Value}{n:Nat}(I:Inv X pins σ H s)(S:jr X own scope)
 (hf:∀b∈fp,fY X pins H b) (hfl:∀b∈fp,b<s.heap.objs.size)
 (hsub:∀x c,cl.lookup x=some c->X.env.cells.lookup x=some c) (hget:∀x,(x,NameKind.free)∈scope.names->cl.lookup x=X.env.cells.lookup x)
 (hC:s.heap.objs.size<=C) (hD:s.heap.objs.size<=D) (hDC:D≠C) (hn:h₁.Ns C m) (old:∀b o,s.heap.get? b=some o->h₁.get? b=some o) (hacc:h₁.get? D=some (dW us n)):
 Inv (cX X own scope cl C fp s H) [(D,dW us n)] (List.replicate own.length none++σ) H { s with heap:=h₁,toks:=t' }:=by
 have ok:=I.ok
 have uq:∀b:Addr,s.heap.objs.size<=b->b ∉ frs X.stack:=λb hb z=>by
  rcases List.mem_cons.mp (I.pG b z) with e|e
  . exact absurd I.lt (by rw[<-e];exact Nat.not_lt.mpr hb)
  . exact I.uq hb e
 have fresh:∀b:Addr,s.heap.objs.size<=b->H b=none:=λb hb=>I.hok.fresh hb
 have clt:∀x c,cl.lookup x=some c->c<s.heap.objs.size:=λx c e=>by
  obtain⟨v,q⟩:=I.cell x c (hsub x c e)
  exact q.lt
 refine⟨⟨ok.mod,S.kind,ok.glob,ok.blt,hC,λx y c e1 e2=>ok.inj x y c (hsub x c e1) (hsub y c e2),λx hx=>?_,λx c hx _=>(nomatch hx),ok.hd,ok.frames,.inl rfl,λb hb=>?_,I.bs,Nat.le_trans ok.jU I.sz,λb o e hb=>?_,λb hb z=>?_,I.stack,I.wA⟩,
  rfl,I.bare,Un.kept old,⟨m,hn,λi x v e1 e2 e3=>?_⟩,λx c e=>?_,fresh C hC,λx c e=>?_,λp hp=>?_,I.hok.kept old,?_⟩
 . have hm:=S.freeOf (x:=x) hx
   obtain⟨c,e⟩:=ok.has x (S.free _ hm rfl)
   exact⟨c,by rw[show(cX X own scope cl C fp s H).env.cells=cl from rfl,hget x hm];exact e⟩
 . refine⟨Nat.ne_of_lt (Nat.lt_of_lt_of_le (hfl b hb) hC),λx c e z=>?_⟩
   exact(hf b hb).2.2.2.2.1 x c (hsub x c e) z
 . rcases(hf b hb).2.2.2.1 with z|z
   . exact ok.uo b o e z
   . exact absurd (Nat.lt_of_lt_of_le (Heap.lt_size e) (Nat.le_trans ok.jU z)) (Nat.lt_irrefl _)
 . rcases List.mem_cons.mp (I.pG b z) with q|q
   . exact(hf b hb).2.1 q
   . exact(hf b hb).2.2.1 q
 . obtain⟨hk,e2'⟩:=Gj e2
   have e1':X.N[i - own.length]? =some x:=by
    have e1:(own++X.N)[i]? =some x:=e1
    rw[List.getElem?_append_right hk] at e1
    exact e1
   have Av:x∈X.N:=List.mem_of_getElem? e1'
   have hk2:(relabel scope X.env).names.lookup x=some .cell\/(relabel scope X.env).names.lookup x=some .free:=by
    rcases e3 with q|q
    . exact absurd q (S.adN Av)
    . exact q
   have hm:=S.freeOf hk2
   have wW:=S.free _ hm rfl
   obtain⟨mX,hnX,Gk⟩:=I.loc
   obtain⟨u,r,lk⟩:=Gk _ x v e1' e2' (.inr wW)
   refine⟨u,r,.inr ⟨hk2,?_⟩⟩
   rcases lk with⟨q,_⟩|⟨_,c,ec,hc⟩
   . rcases wW with z|z
     . rw[z] at q;cases q
     . rw[z] at q;cases q
   . obtain⟨o,ho,hd⟩:=hc
     exact⟨c,(hget x hm).trans ec,o,old _ _ ho,hd⟩
 . obtain⟨v,o,ho,hd⟩:=I.cell x c (hsub x c e)
   exact⟨v,o,old _ _ ho,hd⟩
 . exact I.gR x c (hsub x c e)
 . have e:p=(D,dW us n):=by
    have hp:p∈([]++[(D,dW us n)]:List (Addr × Obj)):=hp
    simpa using hp
   subst e
   exact⟨hacc,fresh D hD,hDC,uq D hD,λv z=>by
    have z:Data.seq us.toArray n=Data.cell v:=z
    cases z⟩
 . show _=(own++X.N).length
   rw[List.length_append,List.length_append,List.length_replicate,I.len]
theorem Inv.unblock {pins:List (Addr × Obj)}{σ σ':St}{H H3:Hp}{s s3:Shared}{fp:List Addr}{cl:List (Str × Addr)}{C D:Addr}{h':Heap}{us:List Value}{n:Nat}{ys:List V}{pl:List (Addr × Obj)}(I:Inv X pins σ H s)
 (hf:∀b∈fp,fY X pins H b) (I3:Inv (cX X own scope cl C fp s H) pl σ' H3 s3) (hpl:(D,dW us n)∈pl) (hC:s.heap.objs.size<=C) (hD:s.heap.objs.size<=D) (hDC:D≠C)
 (r:Vals ys us) (hz:ys.length<=sizeLine) (hs:Heap.SameBut C s3.heap h'):Inv X pins σ (upd H3 D (.lst ys)) { s3 with heap:=h' }/\H3 D=none:=by
 obtain⟨eD,nD,_,_,_⟩:=I3.pin (D,dW us n) (List.mem_append_right _ hpl)
 have nC:H3 C=none:=I3.free
 have kC:∀b o,b≠C->s3.heap.get? b=some o->h'.get? b=some o:=λb o hb e=>(hs.2 b hb).trans e
 refine⟨I.call' (ch:=fp) I3.os ⟨λb o e nb hb hx=>?_,λb o e nb hb hx=>?_,λb o e nb hx=>?_,λb o e hx=>?_,λb xs e=>?_,λb o u e=>?_,λb ps e=>?_⟩ (λb o e=>?_) I3.bare (λb hb=>?_),nD⟩
 . exact kC b o (Nat.ne_of_lt (Nat.lt_of_lt_of_le (Heap.lt_size e) hC)) (I3.base.keep b o e nb hb hx)
 . obtain⟨sl,e1⟩:=I3.base.slot b o e nb hb hx
   exact⟨sl,kC b _ (Nat.ne_of_lt (Nat.lt_of_lt_of_le (Heap.lt_size e) hC)) e1⟩
 . rw[aq (Nat.ne_of_lt (Nat.lt_of_lt_of_le (Heap.lt_size e) hD))]
   exact I3.base.free b o e nb hx
 . obtain⟨o',e1⟩:=I3.base.there b o e hx
   exact⟨o',kC b _ (Nat.ne_of_lt (Nat.lt_of_lt_of_le (Heap.lt_size e) hC)) e1⟩
 . have q:=I3.base.tups b xs e
   rw[aq (aJ q nD)];exact q
 . have q:=I3.base.iT b o u e
   rw[aq (aJ q nD)];exact q
 . obtain⟨mo,q⟩:=I3.base.iU b ps e
   exact⟨mo,by rw[aq (aJ q nD)];exact q⟩
 . by_cases hb:b=D
   . subst hb
     rw[aG] at e;cases e
     exact⟨hz,us,n,r,kC b _ hDC eD⟩
   . rw[aq hb] at e
     refine(I3.hok b o e).stay (λc v hc q=>kC c v ?_ q) (λc q=>by rw[aq (aJ q nD)];exact q) λc xs q=>by rw[aq (aJ q nD)];exact q
     rcases hc with z|z
     . rw[z];exact aJ e nC
     . exact aJ z nC
 . obtain⟨_,f1,_,f3,f4,f5⟩:=hf b hb
   exact⟨f3,f1,f4,f5⟩
theorem adP {tg iter elt:Expr}{ifs:List Expr}{pos:Pos}{g:TG}{tt:TT}{te:TE}{pins:List (Addr × Obj)}{σ:St}{H2:Hp}{s2:Shared}{it:Addr}{fp:List Addr}{tn:Nat->Heap->Prop}{J:It}{cl:List (Str × Addr)}{Fin:List V->Hp->Prop}{W:Nat->Nat->List V->Hp->Prop}{m0:Nat}
 {RR:Value->Addr->Result->Shared->Prop} (hc:X.calm=true) (S:jr X own scope) (hsub:∀x c,cl.lookup x=some c->X.env.cells.lookup x=some c) (hget:∀x,(x,NameKind.free)∈scope.names->cl.lookup x=X.env.cells.lookup x)
 (I2:Inv X pins σ H2 s2) (T:Turn X.prog X.w X.K tg J fp it tn) (st2:tn 0 s2.heap) (f2:∀b∈fp,fY X pins H2 b) (w0:W 0 m0 [] H2)
 (turn:∀i m ys H,W i m ys H->(J.stop i H/\Fin ys H)\/
   (J.go i H/\ys.length<sizeLine/\∀x H',J.pL i H x H'->g x (List.replicate own.length none++σ) H' λσ2 H2=>σ2.drop own.length=σ/\
     tt σ2 H2 λb H3=>if b=true then te σ2 H3 λy H4=>∃m',m'<m/\W (i+1) m' (ys++[y]) H4 else ∃m',m'<m/\W (i+1) m' ys H3))
 (hg:∀cl C fp s₂ H₂,PG (cX X own scope cl C fp s₂ H₂) tg g) (ht:∀cl C fp s₂ H₂,wV (cX X own scope cl C fp s₂ H₂) ifs tt) (he:∀cl C fp s₂ H₂,PE (cX X own scope cl C fp s₂ H₂) elt te)
 (hRR:∀(C D:Addr) (s5:Shared) (H5:Hp) (ys:List V) (us:List Value) (k:Nat),s2.heap.objs.size<=C->s2.heap.objs.size<=D->D≠C->Inv (cX X own scope cl C fp s2 H2) [(D,dW us k)] (List.replicate own.length none++σ) H5 s5->Vals ys us->ys.length<=sizeLine->Fin ys H5->RR (.ref D) C (.ok .next) s5):
 wpAny (model X.prog X.w) X.A (newList []) (λacc s₃=>wpAny (model X.prog X.w) X.A (newFunctionEnv scope X.env.globals cl [] X.env.qual none .none (some X.env)) (λcenv s₄=>
  codeAny (model X.prog X.w) X.A (.compStart (.ListComp elt [⟨tg,iter,ifs,0⟩] scope pos) 0 (.ref it) acc { cenv with scope:=relabel scope X.env }) (RR acc cenv.locals) s₄) X.xe s₃) X.xe s2:=by
 have hfl:∀b∈fp,b<s2.heap.objs.size:=λb hb=>by
  obtain⟨o,e,_⟩:=T.obj _ _ st2 b hb
  exact Heap.lt_size e
 refine wpAny_newObj_type (wpAny_newFunctionEnv S.cell (by intro y hy;simp at hy) (λh₁ hns₁ hsb₁=>?_) S.kind)
 dsimp only at hns₁ hsb₁ ⊢
 generalize hG:s2.heap.push { cls:=.type "list",dict:=none,data:=.seq ([]:List Value).toArray }=G at hns₁ hsb₁ ⊢
 have wX:G.objs.size=s2.heap.objs.size+1:=by rw[<-hG,Heap.size_push]
 have hC:s2.heap.objs.size<=G.objs.size:=by rw[wX];exact Nat.le_succ _
 have hDC:s2.heap.objs.size≠G.objs.size:=by rw[wX];exact Nat.ne_of_lt (Nat.lt_succ_self _)
 have old:∀b o,s2.heap.get? b=some o->h₁.get? b=some o:=λb o e=>
  hsb₁.extBut b o (Nat.ne_of_lt (Nat.lt_of_lt_of_le (Heap.lt_size e) hC)) (Heap.get?_push_of_some _ (hG ▸ Heap.get?_push_of_some _ e))
 have hacc:h₁.get? s2.heap.objs.size=some (dW [] 0):=hsb₁.extBut _ _ hDC (Heap.get?_push_of_some _ (hG ▸ Heap.get?_push_size _ rfl))
 have I3:=I2.block (cl:=cl) (t':=s2.toks+([]:List (Str × Value)).length) S f2 hfl hsub hget hC (Nat.le_refl _) hDC hns₁ old hacc
 have st3:tn 0 h₁:=T.keep _ _ _ st2 λb _ o e=>old b o e
 have uy:∀b∈fp,H2 b=none:=λb hb=>(f2 b hb).1
 have stat:∀{H':Hp} {us:List Value} {n:Nat},(∀b∈fp,H' b=none)->∀b∈fp,fY (cX X own scope cl G.objs.size fp s2 H2) [(s2.heap.objs.size,dW us n)] H' b:=λ{H' us n} hn b hb=>by
  refine⟨hn b hb,Nat.ne_of_lt (Nat.lt_of_lt_of_le (hfl b hb) hC),λz=>?_,.inl hb,λx c e=>(f2 b hb).2.2.2.2.1 x c (hsub x c e),λp hp=>?_⟩
  . rcases List.mem_cons.mp (I2.pG b z) with q|q
    . exact(f2 b hb).2.1 q
    . exact(f2 b hb).2.2.1 q
  . have hp:p∈([]++[(s2.heap.objs.size,dW us n)]:List (Addr × Obj)):=hp
    have e:p=(s2.heap.objs.size,dW us n):=by simpa using hp
    subst e
    exact Nat.ne_of_gt (hfl b hb)
 have loop:∀s₃:Shared,s₃={ s2 with heap:=h₁,toks:=s2.toks+([]:List (Str × Value)).length }->
  codeAny (model X.prog X.w) X.A (.compLoop (.ListComp elt [⟨tg,iter,ifs,0⟩] scope pos) 0 (.ref it) (.ref s2.heap.objs.size) (compEnvC scope cl G.objs.size X.env))
   (RR (.ref s2.heap.objs.size) G.objs.size) s₃:=by
  rintro s₃ rfl
  refine adM (λn s'=>∃i ys us k H',Inv (cX X own scope cl G.objs.size fp s2 H2) [(s2.heap.objs.size,dW us k)] (List.replicate own.length none++σ) H' s'/\Vals ys us/\ys.length<=sizeLine/\tn i s'.heap/\(∀b∈fp,H' b=none)/\W i n ys H')
   ?_ m0 ⟨0,[],[],0,H2,I3,.nil,Nat.zero_le _,st3,uy,w0⟩
  rintro n s4 ⟨i,ys,us,k,H4,I4,r4,z4,wY,pW,w4⟩
  rcases turn i n ys H4 w4 with⟨stop,qn⟩|⟨go,hlt,step⟩
  . refine aP (T.done (cX X own scope cl G.objs.size fp s2 H2) rfl rfl rfl hc i _ s4 _ H4 (λ_ _=>False) I4 (stat pW) wY stop) λr s5 ⟨hr,I5⟩=>?_
    subst hr
    exact hRR G.objs.size s2.heap.objs.size s5 H4 ys us k hC (Nat.le_refl _) hDC I5 r4 z4 qn
  . refine aP (T.item (cX X own scope cl G.objs.size fp s2 H2) rfl rfl rfl hc i _ s4 _ H4 (λ_ _=>False) I4 (stat pW) wY go) λr s5 ⟨u,hr,h5⟩=>?_
    subst hr
    refine aP h5 λ_ s6 ⟨x,H6,I6,r6,y6,lX,Gm⟩=>?_
    have Gn:=I6.pinned (stat Gm) (T.obj _ _ lX)
    refine aP (hg cl G.objs.size fp s2 H2 _ s6 _ H6 x u _ Gn r6 (step x H6 y6)) λ_ s7 ⟨σ7,H7,I7,d7,q7⟩=>?_
    refine aP (ht cl G.objs.size fp s2 H2 _ s7 σ7 H7 _ I7 q7) λb s8 ⟨H8,I8,q8⟩=>?_
    have hlen:(List.replicate own.length none++σ).length=σ7.length:=by rw[I7.len,<-I6.len]
    have back:∀(j:Nat) v,(List.replicate own.length none++σ)[j]? =some (some v)->σ7[j]? =some (some v):=λj v e=>by
     obtain⟨hk,e'⟩:=Gj e
     rw[<-d7,List.getElem?_drop] at e'
     rw[<-e']
     congr 1
     omega
    cases b with
    |false=>
     have q8:∃m',m'<n/\W (i+1) m' ys H8:=q8
     obtain⟨m',hm,w8⟩:=q8
     refine⟨m',hm,i+1,ys,us,k,H8,I8.pO.weak hlen back,r4,z4,T.keep _ _ _ lX λb hb o e=>?_,λb hb=>?_,w8⟩
     . exact(I8.pin (b,o) (List.mem_append_right _ (List.mem_append_right _ (pN hb e)))).1
     . obtain⟨o,e,d⟩:=T.obj _ _ lX b hb
       exact(I8.pin (b,o) (List.mem_append_right _ (List.mem_append_right _ (pN hb e)))).2.1
    |true=>
     have q8:te σ7 H8 λy H9=>∃m',m'<n/\W (i+1) m' (ys++[y]) H9:=q8
     show wpAny _ _ _ _ _ _
     refine aP (he cl G.objs.size fp s2 H2 _ s8 σ7 H8 _ I8 q8) λyv s9 ⟨y,H9,I9,r9,m',hm,w9⟩=>?_
     obtain⟨eD,nD,ne1,ne2,_⟩:=I9.pin (s2.heap.objs.size,dW us k) (List.mem_append_right _ (List.mem_append_left _ List.mem_cons_self))
     have hl:=r4.length
     refine append_at (hsz:=by rw[List.size_toArray,<-hl];exact z4) eD λh10 wZ Gp=>?_
     have hpin:∀b∈fp,∀o,s6.heap.get? b=some o->s9.heap.get? b=some o/\H9 b=none:=λb hb o e=>by
      have q:=I9.pin (b,o) (List.mem_append_right _ (List.mem_append_right _ (pN hb e)))
      exact⟨q.1,q.2.1⟩
     have Gq:∀b∈fp,b≠s2.heap.objs.size:=λb hb=>Nat.ne_of_lt (hfl b hb)
     have Gr:Inv (cX X own scope cl G.objs.size fp s2 H2) [] σ7 H9 s9:=I9.pH λp hp=>(nomatch hp)
     have Gs:Inv (cX X own scope cl G.objs.size fp s2 H2) [] σ7 H9 { s9 with heap:=h10 }:=
      Gr.turned (t':=s9.toks) (λb o hb e=>wZ.extBut b o hb e) nD ne1 (.inr (Nat.le_refl _)) (λx c e z=>by
       obtain⟨v,q⟩:=I2.cell x c (hsub x c e)
       exact absurd q.lt (by rw[z];exact Nat.lt_irrefl _)) λp hp=>(nomatch hp)
     have Gu:Inv (cX X own scope cl G.objs.size fp s2 H2) [(s2.heap.objs.size,dW (us++[yv]) (k+1))] σ7 H9 { s9 with heap:=h10 }:=Gs.pH λp hp=>by
      have e:p=(s2.heap.objs.size,dW (us++[yv]) (k+1)):=by simpa using hp
      subst e
      refine⟨?_,nD,ne1,ne2,λv z=>by
       have z:Data.seq (us++[yv]).toArray (k+1)=Data.cell v:=z
       cases z⟩
      show h10.get? _=some { cls:=.type "list",data:=.seq (us++[yv]).toArray (k+1) }
      rw[<-List.push_toArray]
      exact Gp
     refine⟨m',hm,i+1,ys++[y],us++[yv],k+1,H9,Gu.weak hlen back,r4.append (.cons r9 .nil),by rw[List.length_append,List.length_singleton];exact hlt,T.keep _ _ _ lX λb hb o e=>wZ.extBut b o (Gq b hb) (hpin b hb o e).1,λb hb=>?_,w9⟩
     obtain⟨o,e,d⟩:=T.obj _ _ lX b hb
     exact(hpin b hb o e).2
 exact codeAny_compStart_list (loop _ rfl) (T.self _ 0 _ _ _ st3 (loop _ rfl))
theorem adQ {tg iter elt:Expr}{ifs:List Expr}{pos:Pos}{wi:TI}{g:TG}{tt:TT}{te:TE}(hc:X.calm=true)(S:jr X own scope)(hi:PI X tg iter wi)
 (hg:∀cl C fp s₂ H₂,PG (cX X own scope cl C fp s₂ H₂) tg g) (ht:∀cl C fp s₂ H₂,wV (cX X own scope cl C fp s₂ H₂) ifs tt)
 (he:∀cl C fp s₂ H₂,PE (cX X own scope cl C fp s₂ H₂) elt te) (hs:∀x,foldedSetIterable iter X.env x=pure x:=by intro _;rfl):
 PE X (.ListComp elt [⟨tg,iter,ifs,0⟩] scope pos) (T5 own.length wi g tt te):=by
 intro pins s σ H Q I h
 obtain⟨cl,hclos,hsub,hget⟩:=Gi (S.cells I)
 rw[eval_ListComp]
 refine wpAny_comprehension_free (use:=none) rfl hs hclos S.kind S.names ?_
 refine aP (hi pins s σ H _ I h) λv s1 h1=>aP h1 λitv s2 h2=>?_
 obtain⟨it,fp,tn,J,H2,xg,I2,T,st2,f2,W,⟨m0,w0⟩,turn⟩:=h2
 subst xg
 refine adP (RR:=λacc C=>compPost (model X.prog X.w) X.A X.xe none (EP X pins σ Q) acc C) hc S hsub hget I2 T st2 f2 w0 turn hg ht he ?_
 intro C D s5 H5 ys us k hC hD hDC I5 r5 z5 fin
 obtain⟨m5,n5,_⟩:=id I5.loc
 refine⟨m5,n5,λh' hs'=>?_⟩
 obtain⟨I6,nD⟩:=I2.unblock f2 I5 List.mem_cons_self hC hD hDC r5 z5 hs'
 exact⟨.ref D,_,I6,rfl,fin _ nD⟩
end
section
variable {X:Cx}
theorem adR {e:Expr}:PT X e (λ_ _ _=>False):=λ_ _ _ _ _ _ h=>h.elim
theorem T6:∀{ss:List Str}{vs:List Value},Vals (ss.map V.str) vs->StrsAre vs ss
 |[],_,r=>by cases r;exact .nil
 |y::r,_,h=>by
  cases h with
  |cons a b=>
   obtain⟨t,e⟩:=a
   subst e
   exact .cons y t (T6 b)
theorem T7:∀{vs:List Value}{ss:List Str},StrsAre vs ss->Vals (ss.map V.str) vs
 |_,_,.nil=>.nil
 |_,_,.cons y t h=>.cons ⟨t,rfl⟩ (T7 h)
theorem adS:lR X (.builtin "sorted") (λxs H Q=>∃a ss,xs=[.ref a]/\aL X.K H a (ss.map V.str)/\ss.length<64/\
 ∀p ss',H p=none->ss'.Perm ss->sortedS ss'=true->Q (.ref p) (upd H p (.lst (ss'.map V.str)))):=by
 intro pins s σ H xs us Q I r h
 obtain⟨a,ss,rfl,hq,h64,q⟩:=h
 obtain⟨u,rfl,ru⟩:=vals1 r
 cases ru
 obtain⟨its,rv,pl,hz⟩:=I.list hq
 have hl:its.length=ss.length:=by rw[<-rv.length,List.length_map]
 refine sorted_strs pl.isList (T6 rv) (by omega) λout ss' h1 h2 h3=>?_
 obtain⟨e,he⟩:=sortedAll_at s.heap its out
 refine⟨.ref (s.heap.objs.size+1),upd H (s.heap.objs.size+1) (.lst (ss'.map V.str)),I.laid (t':=s.toks) (λ_ _=>sortedAll_old) (Nat.le_succ _) ?_,rfl,q _ ss' (I.hok.fresh (Nat.le_succ _)) h2 h3⟩
 refine⟨?_,out.toList,e,T7 h1,he⟩
 rw[List.length_map,h2.length_eq]
 have:ss.length<=1000:=by omega
 exact Nat.le_of_lt (wU this)
noncomputable def Ite (K:W.Frag) (a:Addr):It:=
 ⟨λi H=>∃xs x,aL K H a xs/\xs[i]? =some x,
  λi H x H'=>∃p y,H p=none/\x=.ref p/\(∀xs,aL K H a xs->xs[i]? =some y)/\H'=upd H p (.tup [.int i,y]),
  λi H=>∃xs,aL K H a xs/\xs.length<=i⟩
theorem adT {P:Program}{w:World}{K:W.Frag}{elts:List Expr}{k:Nat}{tpos:Pos}{a e it:Addr}(hne:e≠it):
 Turn P w K (.Tuple elts k tpos) (Ite K a) [e,it] e (λi h=>∃old,IsEnum h e it (i:Int) old/\h.IsListIter it a i) where
 mem:=by simp
 obj:=λi h st b hb=>by
  obtain⟨old,h1,h2⟩:=st
  have hb:b=e\/b=it:=by simpa using hb
  rcases hb with rfl|rfl
  . exact⟨_,h1,λv z=>by
     have z:Data.fields _=Data.cell v:=z
     cases z⟩
  . obtain⟨o,q,c,d⟩:=h2
    exact⟨o,q,λv z=>by rw[d] at z;cases z⟩
 keep:=λi h h' st k=>by
  obtain⟨old,h1,h2⟩:=st
  exact⟨old,k e (by simp) _ h1,h2.at λo q=>k it (by simp) o q⟩
 item:=by
  intro X hP hw hK hc i pins s σ H E I hf st hg
  subst hP hw hK
  obtain⟨old,h1,h2⟩:=st
  obtain⟨xs,x,hq,hx⟩:=hg
  obtain⟨its,rv,p,hz⟩:=I.list hq
  obtain⟨u,hu,ru⟩:=rv.get hx
  obtain⟨e0,e1,e2,e3,e4,e5⟩:=hf e (by simp)
  obtain⟨f0,f1,f2,f3,f4,f5⟩:=hf it (by simp)
  have fr:H s.heap.objs.size=none:=I.hok.fresh (Nat.le_refl _)
  refine wpAny_pyNext_enum_item h1 h2 p.isList (x:=u) (by simpa using hu) hne λh' q1 q2 q3 q4 q5=>?_
  refine⟨_,rfl,wpAny_letOwnedTupleGo_enum (s:={ s with heap:=h',toks:=s.toks+1 }) q1 λh'' g1 g2=>?_⟩
  have ne1:∀b o,s.heap.get? b=some o->b≠s.heap.objs.size:=λb o q=>Nat.ne_of_lt (Heap.lt_size q)
  have kk:∀b o,b≠e->b≠it->s.heap.get? b=some o->h''.get? b=some o:=λb o n1 n2 q=>g2.extBut b o n1 (q5 b o n1 n2 q)
  have pe:s.heap.objs.size≠e:=Nat.ne_of_gt (Heap.lt_size h1)
  have tup:h''.get? s.heap.objs.size=some { cls:=.type "tuple",data:=.seq #[.int i s.toks,u] }:=g2.extBut _ _ pe q3
  have I1:Inv X pins σ (upd H s.heap.objs.size (.tup [.int i,x])) { s with heap:=h'',toks:=s.toks+1 }:=by
   refine I.step (g':=s.gens) (d':=s.drawn) (ch:=[e,it]) (λb hb=>?_) (λb o _ _ hc q _=>?_) (λb o _ _ hc q _=>?_) (λb o _ q n=>?_) (λb o hc q=>?_) (λb ys q=>?_) (λb o v q=>?_) (λb ps q=>?_) (λm hm=>?_) (λb o q=>?_) I.bare
   . have hb:b=e\/b=it:=by simpa using hb
     rcases hb with rfl|rfl
     . exact⟨e3,e1,e4,e5⟩
     . exact⟨f3,f1,f4,f5⟩
   . exact kk b o (λz=>hc (by simp[z])) (λz=>hc (by simp[z])) q
   . exact⟨o.slots,kk b o (λz=>hc (by simp[z])) (λz=>hc (by simp[z])) q⟩
   . rw[aq (ne1 b o q)];exact n
   . exact⟨o,kk b o (λz=>hc (by simp[z])) (λz=>hc (by simp[z])) q⟩
   . rw[aq (aJ q fr)];exact q
   . rw[aq (aJ q fr)];exact q
   . exact⟨#[],by rw[aq (aJ q fr),q];simp⟩
   . obtain⟨o,es,ep,ho,r⟩:=hm
     exact⟨o,es,ep,kk _ o (Ne.symm e1) (Ne.symm f1) ho,r⟩
   . by_cases hb:b=s.heap.objs.size
     . subst hb
       rw[aG] at q;cases q
       refine⟨bC,[.int i s.toks,u],.cons ⟨_,rfl⟩ (.cons ru .nil),?_⟩
       exact⟨_,tup,rfl,_,rfl⟩
     . rw[aq hb] at q
       refine(I.hok b o q).stay (λc v hc' z=>kk c v ?_ ?_ z) (λc z=>by rw[aq (aJ z fr)];exact z) λc ys z=>by rw[aq (aJ z fr)];exact z
       . rcases hc' with z|z
         . rw[z];exact aJ q e0
         . exact aJ z e0
       . rcases hc' with z|z
         . rw[z];exact aJ q f0
         . exact aJ z f0
  refine⟨.ref s.heap.objs.size,_,I1,rfl,⟨s.heap.objs.size,x,fr,rfl,λys hy=>by rw[I.Ry hy hq];exact hx,rfl⟩,⟨u,?_,q2.extBut g2.extBut (Ne.symm hne)⟩,λb hb=>?_⟩
  . have ei:((i+1:Nat):Int)=(i:Int)+1:=by omega
    show IsEnum h'' e it ((i+1:Nat):Int) u
    rw[ei];exact g1
  . have hb':b=e\/b=it:=by simpa using hb
    have hlt:b<s.heap.objs.size:=by
     rcases hb' with rfl|rfl
     . exact Heap.lt_size h1
     . obtain⟨o,q,_⟩:=h2;exact Heap.lt_size q
    rw[aq (Nat.ne_of_lt hlt)]
    exact(hf b hb).1
 done:=by
  intro X hP hw hK hc i pins s σ H E I hf st hg
  subst hP hw hK
  obtain⟨old,h1,h2⟩:=st
  obtain⟨xs,hq,hx⟩:=hg
  obtain⟨its,rv,p,hz⟩:=I.list hq
  obtain⟨f0,f1,f2,f3,f4,f5⟩:=hf it (by simp)
  have hl:=rv.length
  exact wpAny_pyNext_enum_end (I.ok.hd hc) h1 h2 p.isList (by simp;omega) λh' eb=>⟨rfl,I.turned (t':=s.toks) (λb o hb q=>eb b o hb q) f0 f1 f3 f4 f5⟩
 self:=λA i s Q E st q=>by
  obtain⟨old,h1,_⟩:=st
  exact wpAny_pyIter_enum h1 q
noncomputable def adU (K:W.Frag) (ta:TA):TI:=λσ H R=>ta σ H λvs H1=>∃a,vs=[.ref a]/\(∃xs,aL K H1 a xs)/\R (Ite K a) H1
theorem adV:bootBuiltins "enumerate"=some (.type "enumerate"):=by decide +kernel
theorem Aw {a:Expr}{ta:TA}{p pos tpos:Pos}{elts:List Expr}{k:Nat}(hg:Gl X "enumerate")(hm:X.mg "enumerate"=none)(ha:PA X [a] ta)(hs:starEach [a] X.env=[(false,eval a X.env)]:=by rfl):
 PI X (.Tuple elts k tpos) (.Call (.Name "enumerate" p) [a] [] pos) (adU X.K ta):=by
 intro pins s σ H R I h
 refine Call_ (pI I hg hm adV (PyProof.Rows.callWith_type1 (aP (ha pos pins s σ H _ I h) λus s1 ⟨vs,H1,I1,r1,q1⟩=>?_) hs rfl))
 obtain⟨l,e,⟨xs,hq⟩,q⟩:=q1
 subst e
 obtain⟨u,rfl,ru⟩:=vals1 r1
 cases ru
 obtain⟨its,rv,pl,hz⟩:=I1.list hq
 refine call_enumerate_list pl.isList λh' q1 q2 q3 q4=>?_
 refine wpAny_pyIter_enum q1 ?_
 have I2:Inv X pins σ H1 { s1 with heap:=h' }:=I1.kept (t':=s1.toks) q4
 refine⟨s1.heap.objs.size+1,[s1.heap.objs.size+1,s1.heap.objs.size],_,_,H1,rfl,I2,adT (Nat.ne_of_gt (Nat.lt_succ_self _)),⟨.none,q1,q2⟩,λb hb=>?_,q⟩
 have hb:s1.heap.objs.size<=b:=by
  have hb:b=s1.heap.objs.size+1\/b=s1.heap.objs.size:=by simpa using hb
  rcases hb with z|z
  . rw[z];exact Nat.le_succ _
  . rw[z];exact Nat.le_refl _
 exact I1.ux hb (I1.hok.fresh hb)
theorem Ax:dJ X (binaryOp .Mult) (λx y H Q=>∃z i,x=.str z/\y=.int i/\MulOk z i/\Q (.str (Txt.mul z i)) H):=by
 intro pins s σ H x y v u Q I rx ry h
 obtain⟨z,i,rfl,rfl,ok,q⟩:=h
 obtain⟨t,rfl⟩:=rx
 obtain⟨t',rfl⟩:=ry
 exact SB.mul ok λt2 k=>⟨.str (Txt.mul z i),H,I.tok k,⟨_,rfl⟩,q⟩
theorem T8 {v:Value}{o:Option Int}(h:IsPart v o):(v=.none/\o=none)\/∃i t,v=.int i t/\o=some i:=by
 cases h with
 |none=>exact .inl ⟨rfl,rfl⟩
 |int i t=>exact .inr ⟨i,t,rfl,rfl⟩
theorem uL:Ge X (λx lo hi H Q=>∃z,x=.str z/\z.length<=sizeLine/\Q (.str (Txt.slice z lo hi)) H):=by
 intro pins s σ H x v vl vu lo hi sl Q I rx hs pl pu h
 obtain⟨z,rfl,hz,q⟩:=h
 obtain⟨t,rfl⟩:=rx
 have fin:∀{lo hi:Option Int} (q:Q (.str (Txt.slice z lo hi)) H),(Txt.slice z lo hi).length<=sizeLine/\∀t' k,EP X pins σ Q (.str (Txt.slice z lo hi) t') { s with toks:=k }:=
  λq=>⟨Nat.le_trans (Txt.slice_le z _ _) hz,λt' k=>⟨.str _,H,I.tok k,⟨t',rfl⟩,q⟩⟩
 refine⟨"str",_,F.slot_str_getitem.lookup,typeIs_str _ _ _,?_⟩
 obtain⟨o,ho,hc,hd⟩:=hs
 rcases T8 pl with⟨e1,rfl⟩|⟨i,ti,e1,rfl⟩ <;> rcases T8 pu with⟨e2,rfl⟩|⟨j,tj,e2,rfl⟩ <;> subst e1 <;> subst e2
 . exact wpAny_getItem_str_slice (l:=none) (u:=none) (st:=none) ⟨o,ho,hc,hd⟩ rfl (post_val_or_str (fin q))
 . exact wpAny_getItem_str_slice (l:=none) (u:=some (j,tj)) (st:=none) ⟨o,ho,hc,hd⟩ rfl (post_val_or_str (fin q))
 . exact wpAny_getItem_str_slice (l:=some (i,ti)) (u:=none) (st:=none) ⟨o,ho,hc,hd⟩ rfl (post_val_or_str (fin q))
 . exact wpAny_getItem_str_slice (l:=some (i,ti)) (u:=some (j,tj)) (st:=none) ⟨o,ho,hc,hd⟩ rfl (post_val_or_str (fin q))
end
theorem yes {σ:St}{H:Hp}{Q:Bool->Hp->Prop}(h:Q true H):Ar σ H Q:=h
section
variable {K:W.Frag}{σ:St}{H:Hp}{Q:VK}{D:Ends}
end
end L2
namespace L2
open PySem
noncomputable def T_ (own N:List Str) (scope sc:Scope):Bool:=
 scope.names.all (λy=>decide (y.2≠ .cell)) && scope.names.all (λy=>decide (y.2=.local->scope.names.lookup y.1=some .local)) &&
 scope.names.all (λy=>decide (y.2=.free->sc.names.lookup y.1=some .cell\/sc.names.lookup y.1=some .free)) && decide (own++N).Nodup && N.all λx=>decide (scope.names.lookup x≠some .local)
theorem jr.of {X:Cx}{own N:List Str}{scope sc:Scope}(hsc:X.env.scope=sc)(hN:X.N=N)(k:scope.kind=.function)(c:T_ own N scope sc=true):jr X own scope:=by
 unfold T_ at c
 simp only[Bool.and_eq_true,List.all_eq_true,decide_eq_true_eq] at c
 obtain⟨⟨⟨⟨c1,c2⟩,c3⟩,c4⟩,c5⟩:=c
 exact⟨k,c1,c2,λy hy hf=>by rw[show X.env.kindOf y.1=X.env.scope.names.lookup y.1 from rfl,hsc];exact c3 y hy hf,by rw[hN];exact c4,by rw[hN];exact c5⟩
end L2
namespace jt
open PySem PySem.W PyProof.Rows
noncomputable def bO {α:Type}(f:Nat->Nat->Bool):KasT α->α
 | .ret a=>a
 | .ask i j k=>bO f (k (f i j))
theorem uM {α β:Type}(f:Nat->Nat->Bool)(g:α->KasT β):∀t:KasT α,bO f (t.bind g)=bO f (g (bO f t))
 | .ret _=>rfl
 | .ask i j k=>uM f g (k (f i j))
noncomputable def Bn {α:Type}(n:Nat) (R:α->Prop):KasT α->Prop
 | .ret a=>R a
 | .ask i j k=>i<n/\j<n/\∀b,Bn n R (k b)
theorem Bn.bind {α β:Type}{n:Nat}{R:α->Prop}{S:β->Prop}{g:α->KasT β}:∀{t:KasT α},Bn n R t->(∀a,R a->Bn n S (g a))->Bn n S (t.bind g)
 | .ret a,h,k=>k a h
 | .ask i j q,h,k=>⟨h.1,h.2.1,λb=>Bn.bind (h.2.2 b) k⟩
theorem Gv {α:Type}{n:Nat}{R:α->Prop}{f:Nat->Nat->Bool}{cmp:Nat->Nat->(Bool->Shared->Prop)->Shared->Prop}{Q:α->Shared->Prop}{s:Shared}
 (h:∀i j (C:Bool->Shared->Prop),i<n->j<n->C (f i j) s->cmp i j C s):∀{t:KasT α},Bn n R t->Q (bO f t) s->t.kasWp cmp Q s
 | .ret a,_,q=>q
 | .ask i j k,b,q=>h i j _ b.1 b.2.1 (Gv h (b.2.2 (f i j)) q)
noncomputable def Lt (n:Nat) (p:Array Nat):Prop:=0<n/\∀x∈p,x<n
theorem Lt.at {n:Nat}{p:Array Nat}(h:Lt n p)(i:Nat):p.getD i 0<n:=by
 rw[Array.getD_eq_getD_getElem?]
 cases e:p[i]? with
 |none=>exact h.1
 |some x=>exact h.2 x (Array.mem_of_getElem? e)
theorem Lt.perm {n:Nat}{p q:Array Nat}(h:Lt n p)(hp:q.Perm p):Lt n q:=⟨h.1,λx hx=>h.2 x (hp.mem_iff.mp hx)⟩
theorem oH (p:Array Nat)(i j:Nat):(kas_rev p i j).Perm p:=mirror_perm _ _ _ _
theorem adW (p:Array Nat)(i j:Nat):(kas_rev p i j).size=p.size:=mirror_size _ _ _ _
theorem Gw {n:Nat}{p:Array Nat}(h:Lt n p):∀f m,Bn n (λ_=>True) (kas_asc p f m)
 |0,_=>trivial
 |f+1,m=>⟨h.at _,h.at _,λb=>by
   cases b with
   |true=>exact trivial
   |false=>exact Gw h f (m+1)⟩
theorem Ay {n:Nat}:∀f (p:Array Nat) m q,Lt n p->Bn n (λr:Array Nat × Nat × Nat=>Lt n r.1) (kas_desc f p m q)
 |0,_,_,_,h=>h
 |f+1,p,m,q,h=>⟨h.at _,h.at _,λb=>by
   cases b with
   |true=>
    show Bn n _ (if q > 0 then kas_desc f (kas_rev p (m - (q+1)) m) (m+1) 0 else kas_desc f p (m+1) 0)
    split
    . exact Ay f _ _ _ (h.perm (oH _ _ _))
    . exact Ay f _ _ _ h
   |false=>
    refine⟨h.at _,h.at _,λd=>?_⟩
    cases d with
    |true=>exact h
    |false=>exact Ay f _ _ _ h⟩
theorem Ua {n m r:Nat}{p:Array Nat}(h:Lt n p):Bn n (λq:Nat × Array Nat=>Lt n q.2) (kas_tail3 m r p):=
 (Gw (h.perm (oH _ _ _)) _ _).bind λ_ _=>h.perm (oH _ _ _)
theorem Ub {n m r:Nat}{p:Array Nat}(h:Lt n p):Bn n (λq:Nat × Array Nat=>Lt n q.2) (kas_descPart m r p):=by
 refine(Ay _ _ _ _ h).bind λa ha=>?_
 split
 . exact Ua (ha.perm (oH _ _ _))
 . exact Ua ha
theorem adX {n r:Nat}{p:Array Nat}(h:Lt n p):Bn n (λq:Nat × Array Nat=>Lt n q.2) (kas_count r p):=by
 refine(Gw h _ _).bind λa _=>?_
 split
 . exact h
 split
 . refine⟨h.at _,h.at _,λb=>?_⟩
   cases b with
   |true=>exact h
   |false=>exact Ub (h.perm (oH _ _ _))
 . exact Ub h
theorem Gx {n k:Nat}{p:Array Nat}(h:Lt n p):∀f l r,Bn n (λ_=>True) (kas_place p k f l r)
 |0,_,_=>trivial
 |f+1,l,r=>by
  unfold kas_place
  split
  . exact trivial
  . refine⟨h.at _,h.at _,λb=>?_⟩
    cases b with
    |true=>exact Gx h f _ _
    |false=>exact Gx h f _ _
theorem Uc {n:Nat}:∀f (p:Array Nat) k,Lt n p->Bn n (λ_=>True) (kas_bin f p k)
 |0,_,_,_=>trivial
 |f+1,p,k,h=>(Gx h _ _ _).bind λl _=>Uc f _ _ (h.perm (bubble_perm _ _ _))
theorem Ud {n:Nat}(hn:0<n):Bn n (λ_=>True) (kas_sort n):=by
 have h:Lt n (List.toArray (List.range n)):=⟨hn,λx hx=>by simpa using hx⟩
 refine(adX h).bind λr hr=>?_
 split
 . exact Uc _ _ _ hr
 . exact trivial
section
variable {O:KeyOrd}(key:Nat->O.α)
noncomputable def cg:Nat->Nat->Bool:=λi j=>O.blt (key i) (key j)
noncomputable def Kp (p:Array Nat) (i:Nat):O.α:=key (p.getD i 0)
noncomputable def jH (p:Array Nat) (k:Nat):Prop:=∀i j,i<=j->j<k->O.kle (Kp key p i) (Kp key p j)
noncomputable def lg (p:Array Nat) (k:Nat):Prop:=∀i j,i<=j->j<k->O.kle (Kp key p j) (Kp key p i)
variable {key}
theorem jH.succ {p:Array Nat}{n:Nat}(h:jH key p n)(h1:1<=n)(e:O.kle (Kp key p (n - 1)) (Kp key p n)):jH key p (n+1):=by
 intro i j hij hj
 by_cases hjn:j<n
 . exact h i j hij hjn
 . have:j=n:=by omega
   subst this
   by_cases hi:i=j
   . subst hi;exact KeyOrd.kle_refl _
   . exact KeyOrd.kle_trans (h i (j - 1) (by omega) (by omega)) e
theorem lg.succ {p:Array Nat}{n:Nat}(h:lg key p n)(h1:1<=n)(e:O.kle (Kp key p n) (Kp key p (n - 1))):lg key p (n+1):=by
 intro i j hij hj
 by_cases hjn:j<n
 . exact h i j hij hjn
 . have:j=n:=by omega
   subst this
   by_cases hi:i=j
   . subst hi;exact KeyOrd.kle_refl _
   . exact KeyOrd.kle_trans e (h i (j - 1) (by omega) (by omega))
theorem xr {p q:Array Nat}{i j:Nat}(h:p[i]? =q[j]?):Kp key p i=Kp key q j:=by
 unfold Kp
 rw[Array.getD_eq_getD_getElem?,Array.getD_eq_getD_getElem?,h]
theorem Gy {p:Array Nat}{i j:Nat}(hj:j<=p.size)(k:Nat):Kp key (kas_rev p i j) k=if i<=k/\k<j then Kp key p (i+j - 1 - k) else Kp key p k:=by
 have e:=getElem?_mirror_all (i:=i) hj k
 by_cases h1:i<=k/\k<j
 . rw[if_pos h1] at e ⊢;exact xr e
 . rw[if_neg h1] at e ⊢;exact xr e
theorem Gz {p:Array Nat}{i j:Nat}(hj:j<=p.size)(heq:∀k,i<=k->k<j->Kp key p k=Kp key p (j - 1))(k:Nat):Kp key (kas_rev p i j) k=Kp key p k:=by
 rw[Gy hj]
 split
 . rw[heq _ (by omega) (by omega),heq k (by omega) (by omega)]
 . rfl
theorem adY {p:Array Nat}{src d:Nat}(hs:src<p.size)(hd:d<=src)(k:Nat):
 Kp key (bubble p src d) k=if k=src - d then Kp key p src else if src - d<k/\k<=src then Kp key p (k - 1) else Kp key p k:=by
 have e:=getElem?_bubble hs d hd k
 by_cases h1:k=src - d
 . rw[if_pos h1] at e ⊢;exact xr e
 . rw[if_neg h1] at e ⊢
   by_cases h2:src - d<k/\k<=src
   . rw[if_pos h2] at e ⊢;exact xr e
   . rw[if_neg h2] at e ⊢;exact xr e
theorem lg.congr {p q:Array Nat}{n:Nat}(h:lg key p n)(e:∀k,Kp key q k=Kp key p k):lg key q n:=λi j a b=>by
 rw[e,e];exact h i j a b
theorem GC {p:Array Nat}:∀f n,1<=n->jH key p n->n<=bO (cg key) (kas_asc p f n)/\bO (cg key) (kas_asc p f n)<=n+f/\jH key p (bO (cg key) (kas_asc p f n))/\
 (bO (cg key) (kas_asc p f n)<n+f->O.klt (Kp key p (bO (cg key) (kas_asc p f n))) (Kp key p (bO (cg key) (kas_asc p f n) - 1)))
 |0,n,_,h=>⟨Nat.le_refl _,Nat.le_refl _,h,λz=>absurd z (Nat.lt_irrefl _)⟩
 |f+1,n,h1,h=>by
  have e:bO (cg key) (kas_asc p (f+1) n)=bO (cg key) (if O.blt (Kp key p n) (Kp key p (n - 1))=true then .ret n else kas_asc p f (n+1)):=rfl
  rw[e]
  cases c:O.blt (Kp key p n) (Kp key p (n - 1)) with
  |true=>
   rw[if_pos rfl]
   exact⟨Nat.le_refl _,Nat.le_add_right _ _,h,λ_=>c⟩
  |false=>
   rw[if_neg (by simp)]
   obtain⟨a1,a2,a3,a4⟩:=GC f (n+1) (by omega) (h.succ h1 c)
   exact⟨by omega,by omega,a3,λz=>a4 (by omega)⟩
structure DI (O:KeyOrd) (key:Nat->O.α) (p₀:Array Nat) (p:Array Nat) (n q:Nat):Prop where
 perm:p.Perm p₀
 non:lg key p n
 one:q+1<=n
 size:n<=p.size
 eq:∀k,n - (q+1)<=k->k<n->Kp key p k=Kp key p (n - 1)
theorem Az {p₀:Array Nat}:∀f (p:Array Nat) n q,DI O key p₀ p n q->n+f<=p₀.size->
 ∃p' n' q',bO (cg key) (kas_desc f p n q)=(p',n',q')/\DI O key p₀ p' n' q'/\n'<=n+f
 |0,p,n,q,d,_=>⟨p,n,q,rfl,d,Nat.le_refl _⟩
 |f+1,p,n,q,d,hs=>by
  have hsz:p.size=p₀.size:=d.perm.size_eq
  have e:bO (cg key) (kas_desc (f+1) p n q)=bO (cg key) (if O.blt (Kp key p n) (Kp key p (n - 1))=true then(if q > 0 then kas_desc f (kas_rev p (n - (q+1)) n) (n+1) 0 else kas_desc f p (n+1) 0)
   else .ask (p.getD (n - 1) 0) (p.getD n 0) λd=>if d=true then .ret (p,n,q) else kas_desc f p (n+1) (q+1)):=rfl
  rw[e]
  have one:=d.one
  cases c:O.blt (Kp key p n) (Kp key p (n - 1)) with
  |true=>
   rw[if_pos rfl]
   have cl:O.kle (Kp key p n) (Kp key p (n - 1)):=KeyOrd.kle_of_klt c
   by_cases hq:q > 0
   . rw[if_pos hq]
     have ek:∀k,Kp key (kas_rev p (n - (q+1)) n) k=Kp key p k:=Gz d.size d.eq
     have d':DI O key p₀ (kas_rev p (n - (q+1)) n) (n+1) 0:=⟨(oH _ _ _).trans d.perm,(d.non.succ (by omega) cl).congr ek,by omega,by rw[adW];omega,λk h1 h2=>by
      have:k=n:=by omega
      subst this;rfl⟩
     obtain⟨p',n',q',r1,r2,r3⟩:=Az f _ _ _ d' (by omega)
     exact⟨p',n',q',r1,r2,by omega⟩
   . rw[if_neg hq]
     have d':DI O key p₀ p (n+1) 0:=⟨d.perm,d.non.succ (by omega) cl,by omega,by omega,λk h1 h2=>by
      have:k=n:=by omega
      subst this;rfl⟩
     obtain⟨p',n',q',r1,r2,r3⟩:=Az f _ _ _ d' (by omega)
     exact⟨p',n',q',r1,r2,by omega⟩
  |false=>
   rw[if_neg (by simp)]
   have e2:bO (cg key) (.ask (p.getD (n - 1) 0) (p.getD n 0) λd=>if d=true then .ret (p,n,q) else kas_desc f p (n+1) (q+1))=bO (cg key) (if O.blt (Kp key p (n - 1)) (Kp key p n)=true then .ret (p,n,q) else kas_desc f p (n+1) (q+1)):=rfl
   rw[e2]
   cases c2:O.blt (Kp key p (n - 1)) (Kp key p n) with
   |true=>
    rw[if_pos rfl]
    exact⟨p,n,q,rfl,d,by omega⟩
   |false=>
    rw[if_neg (by simp)]
    have ee:Kp key p n=Kp key p (n - 1):=O.total _ _ c c2
    have d':DI O key p₀ p (n+1) (q+1):=⟨d.perm,d.non.succ (by omega) (by rw[ee];exact KeyOrd.kle_refl _),by omega,by omega,λk h1 h2=>by
     show Kp key p k=Kp key p n
     by_cases hk:k=n
     . rw[hk]
     . rw[ee];exact d.eq k (by omega) (by omega)⟩
    obtain⟨p',n',q',r1,r2,r3⟩:=Az f _ _ _ d' (by omega)
    exact⟨p',n',q',r1,r2,by omega⟩
noncomputable def xu (O:KeyOrd) (key:Nat->O.α) (p₀:Array Nat) (nrem:Nat) (r:Nat × Array Nat):Prop:=r.2.Perm p₀/\1<=r.1/\r.1<=nrem/\jH key r.2 r.1
theorem Ue {p₀ p:Array Nat}{n nrem:Nat}(hp:p.Perm p₀)(h1:1<=n)(hn:n<=nrem)(hs:nrem<=p₀.size)(h:lg key p n):xu O key p₀ nrem (bO (cg key) (kas_tail3 n nrem p)):=by
 have hsz:p.size=p₀.size:=hp.size_eq
 unfold kas_tail3
 rw[uM]
 have hS:jH key (kas_rev p 0 n) n:=λi j hij hj=>by
  rw[Gy (by omega),Gy (by omega),if_pos (by omega),if_pos (by omega)]
  exact h _ _ (by omega) (by omega)
 obtain⟨a1,a2,a3,_⟩:=GC (key:=key) (p:=kas_rev p 0 n) (nrem - n) n h1 hS
 exact⟨(oH _ _ _).trans hp,by show 1<=bO _ _;omega,by show bO _ _<=nrem;omega,a3⟩
theorem Ug {p₀ p:Array Nat}{n nrem:Nat}(hp:p.Perm p₀)(h1:1<=n)(hn:n+1<=nrem)(hs:nrem<=p₀.size)(h:lg key p (n+1)):xu O key p₀ nrem (bO (cg key) (kas_descPart n nrem p)):=by
 have hsz:p.size=p₀.size:=hp.size_eq
 unfold kas_descPart
 rw[uM]
 have d:DI O key p₀ p (n+1) 0:=⟨hp,h,by omega,by omega,λk h1 h2=>by
  have:k=n:=by omega
  subst this;rfl⟩
 obtain⟨p',n',q',r1,r2,r3⟩:=Az (key:=key) (nrem - (n+1)) p (n+1) 0 d (by omega)
 rw[r1]
 have o:=r2.one
 have sz:=r2.size
 have hsz':p'.size=p₀.size:=r2.perm.size_eq
 by_cases hq:q' > 0
 . show xu O key p₀ nrem (bO (cg key) (if q' > 0 then kas_tail3 n' nrem (kas_rev p' (n' - (q'+1)) n') else kas_tail3 n' nrem p'))
   rw[if_pos hq]
   exact Ue ((oH _ _ _).trans r2.perm) (by omega) (by omega) hs (r2.non.congr (Gz r2.size r2.eq))
 . show xu O key p₀ nrem (bO (cg key) (if q' > 0 then kas_tail3 n' nrem (kas_rev p' (n' - (q'+1)) n') else kas_tail3 n' nrem p'))
   rw[if_neg hq]
   exact Ue r2.perm (by omega) (by omega) hs r2.non
theorem adZ {p:Array Nat}{nrem:Nat}(h1:1<=nrem)(hs:nrem<=p.size):xu O key p nrem (bO (cg key) (kas_count nrem p)):=by
 unfold kas_count
 rw[uM]
 obtain⟨a1,a2,a3,a4⟩:=GC (key:=key) (p:=p) (nrem - 1) 1 (Nat.le_refl _) (λi j hij hj=>by
  have e1:i=0:=by omega
  have e2:j=0:=by omega
  subst e1;subst e2;exact KeyOrd.kle_refl _)
 generalize bO (cg key) (kas_asc p (nrem - 1) 1)=n at *
 by_cases hn:n=nrem
 . rw[if_pos (by simpa using hn)]
   exact⟨Array.Perm.refl _,a1,by show n<=nrem;omega,a3⟩
 . rw[if_neg (by simpa using hn)]
   have cl:O.klt (Kp key p n) (Kp key p (n - 1)):=a4 (by omega)
   by_cases hg:n > 1
   . rw[if_pos hg]
     have e:bO (cg key) (.ask (p.getD 0 0) (p.getD (n - 1) 0) λc=>if c=true then .ret (n,p) else kas_descPart n nrem (kas_rev p 0 n))=
      bO (cg key) (if O.blt (Kp key p 0) (Kp key p (n - 1))=true then .ret (n,p) else kas_descPart n nrem (kas_rev p 0 n)):=rfl
     rw[e]
     cases c:O.blt (Kp key p 0) (Kp key p (n - 1)) with
     |true=>
      rw[if_pos rfl]
      exact⟨Array.Perm.refl _,a1,by show n<=nrem;omega,a3⟩
     |false=>
      rw[if_neg (by simp)]
      have all:∀k,0<=k->k<n->Kp key p k=Kp key p (n - 1):=λk _ hk=>by
       have c':O.kle (Kp key p (n - 1)) (Kp key p 0):=c
       exact KeyOrd.kle_antisymm (a3 k (n - 1) (by omega) (by omega)) (KeyOrd.kle_trans c' (a3 0 k (by omega) hk))
      have ek:∀k,Kp key (kas_rev p 0 n) k=Kp key p k:=Gz (by omega) all
      refine Ug (oH _ _ _) a1 (by omega) hs (lg.congr (lg.succ (n:=n) (λi j hij hj=>?_) a1 (KeyOrd.kle_of_klt cl)) ek)
      rw[all i (by omega) (by omega),all j (by omega) (by omega)]
      exact KeyOrd.kle_refl _
   . rw[if_neg hg]
     have:n=1:=by omega
     subst this
     refine Ug (Array.Perm.refl _) a1 (by omega) hs (lg.succ (n:=1) (λi j hij hj=>?_) a1 (KeyOrd.kle_of_klt cl))
     have e1:i=0:=by omega
     have e2:j=0:=by omega
     subst e1;subst e2;exact KeyOrd.kle_refl _
theorem GD {p:Array Nat}{k:Nat}(h:jH key p k):∀f l r,l<=r->r<=k->r - l<=f->(∀i,i<l->O.kle (Kp key p i) (Kp key p k))->(∀i,r<=i->i<k->O.klt (Kp key p k) (Kp key p i))->
 ∃m,bO (cg key) (kas_place p k f l r)=m/\m<=k/\(∀i,i<m->O.kle (Kp key p i) (Kp key p k))/\(∀i,m<=i->i<k->O.klt (Kp key p k) (Kp key p i))
 |0,l,r,h1,h2,h3,h4,h5=>⟨l,rfl,by omega,h4,λi a b=>h5 i (by omega) b⟩
 |f+1,l,r,h1,h2,h3,h4,h5=>by
  by_cases hg:l ≥ r
  . refine⟨l,?_,by omega,h4,λi a b=>h5 i (by omega) b⟩
    unfold kas_place
    rw[if_pos hg];rfl
  . have e:bO (cg key) (kas_place p k (f+1) l r)=bO (cg key) (if O.blt (Kp key p k) (Kp key p ((l+r) / 2))=true then kas_place p k f l ((l+r) / 2) else kas_place p k f ((l+r) / 2+1) r):=by
     show bO (cg key) (if l ≥ r then .ret l else _)=_
     rw[if_neg hg];rfl
    rw[e]
    cases c:O.blt (Kp key p k) (Kp key p ((l+r) / 2)) with
    |true=>
     rw[if_pos rfl]
     exact GD h f _ _ (by omega) (by omega) (by omega) h4 λi a b=>KeyOrd.klt_of_klt_of_kle (show O.klt _ _ from c) (h _ _ a b)
    |false=>
     rw[if_neg (by simp)]
     exact GD h f _ _ (by omega) h2 (by omega) (λi a=>KeyOrd.kle_trans (h i ((l+r) / 2) (by omega) (by omega)) (show O.kle _ _ from c)) h5
theorem Uh:∀f (p:Array Nat) k,jH key p k->k+f<=p.size->(bO (cg key) (kas_bin f p k)).Perm p/\jH key (bO (cg key) (kas_bin f p k)) (k+f)
 |0,p,k,h,_=>⟨Array.Perm.refl _,h⟩
 |f+1,p,k,h,hs=>by
  have e:bO (cg key) (kas_bin (f+1) p k)=bO (cg key) (kas_bin f (bubble p k (k - bO (cg key) (kas_place p k k 0 k))) (k+1)):=by
   show bO (cg key) ((kas_place p k k 0 k).bind λl=>kas_bin f (bubble p k (k - l)) (k+1))=_
   rw[uM]
  rw[e]
  obtain⟨m,em,m1,m2,m3⟩:=GD h k 0 k (Nat.zero_le _) (Nat.le_refl _) (Nat.le_refl _) (λi z=>absurd z (Nat.not_lt_zero _)) (λi a b=>absurd a (by omega))
  rw[em]
  have kb:=λi=>adY (key:=key) (p:=p) (src:=k) (d:=k - m) (by omega) (by omega) i
  have hm:k - (k - m)=m:=by omega
  rw[hm] at kb
  have hS:jH key (bubble p k (k - m)) (k+1):=by
   intro i j hij hj
   rw[kb i,kb j]
   by_cases ei:i=m
   . rw[if_pos ei]
     by_cases ej:j=m
     . rw[if_pos ej];exact KeyOrd.kle_refl _
     . rw[if_neg ej,if_pos (by omega)]
       exact KeyOrd.kle_of_klt (m3 _ (by omega) (by omega))
   . rw[if_neg ei]
     by_cases li:m<i/\i<=k
     . rw[if_pos li,if_neg (by omega),if_pos (by omega)]
       exact h _ _ (by omega) (by omega)
     . rw[if_neg li]
       by_cases ej:j=m
       . rw[if_pos ej];exact m2 i (by omega)
       . rw[if_neg ej]
         by_cases lj:m<j/\j<=k
         . rw[if_pos lj];exact h _ _ (by omega) (by omega)
         . rw[if_neg lj];exact h _ _ hij (by omega)
  obtain⟨b1,b2⟩:=Uh f (bubble p k (k - m)) (k+1) hS (by rw[bubble_size];omega)
  exact⟨b1.trans (bubble_perm _ _ _),by rw[show k+(f+1)=k+1+f by omega];exact b2⟩
theorem Ui {n:Nat}(hn:1<=n):(bO (cg key) (kas_sort n)).toList.Perm (List.range n)/\((bO (cg key) (kas_sort n)).toList.map key).Pairwise O.kle:=by
 have hz:(List.toArray (List.range n)).size=n:=by simp
 obtain⟨c1,c2,c3,c4⟩:=adZ (key:=key) (p:=List.toArray (List.range n)) (nrem:=n) hn (by omega)
 have main:(bO (cg key) (kas_sort n)).Perm (List.toArray (List.range n))/\jH key (bO (cg key) (kas_sort n)) n:=by
  unfold kas_sort
  rw[uM]
  generalize bO (cg key) (kas_count n (List.toArray (List.range n)))=r at *
  obtain⟨m,p⟩:=r
  have hsz:p.size=n:=by rw[c1.size_eq,hz]
  by_cases hm:m<n
  . show(bO (cg key) (if m<n then kas_bin (n - max m 1) p (max m 1) else .ret p)).Perm _/\jH key (bO (cg key) (if m<n then kas_bin (n - max m 1) p (max m 1) else .ret p)) n
    rw[if_pos hm]
    have c2:1<=m:=c2
    have em:max m 1=m:=by omega
    rw[em]
    obtain⟨b1,b2⟩:=Uh (key:=key) (n - m) p m c4 (by omega)
    exact⟨b1.trans c1,by rw[show n=m+(n - m) by omega];rw[show m+(n - m) - m=n - m by omega];exact b2⟩
  . show(bO (cg key) (if m<n then kas_bin (n - max m 1) p (max m 1) else .ret p)).Perm _/\jH key (bO (cg key) (if m<n then kas_bin (n - max m 1) p (max m 1) else .ret p)) n
    rw[if_neg hm]
    have c3:m<=n:=c3
    have:m=n:=by omega
    subst this
    exact⟨c1,c4⟩
 refine⟨Array.perm_iff_toList_perm.mp main.1,?_⟩
 have hsz:(bO (cg key) (kas_sort n)).size=n:=by rw[main.1.size_eq,hz]
 rw[List.pairwise_map,List.pairwise_iff_getElem]
 intro i j hi hj hij
 have hi':i<(bO (cg key) (kas_sort n)).size:=by simpa using hi
 have hj':j<(bO (cg key) (kas_sort n)).size:=by simpa using hj
 have q:=main.2 i j (Nat.le_of_lt hij) (by omega)
 unfold Kp at q
 rw[Array.getD_eq_getD_getElem?,Array.getD_eq_getD_getElem?,Array.getElem?_eq_getElem hi',Array.getElem?_eq_getElem hj'] at q
 simpa using q
end
end jt
namespace L2
open PySem PySem.Spec PyProof.Rows
noncomputable def A_ (c':Addr) (qual:Str):Heap->Prop:=λh=>h.CodeRec (.ref c') qual
noncomputable def rQ (P:Addr) (pos:Pos) (qual:Str) (c':Addr) (H:Hp):Prop:=H P=some (.eF #[rawInt pos.line,rawInt pos.col,.ref c'])/\H c'=some (.ext (A_ c' qual))
noncomputable def bU (P:Addr) (pos:Pos) (qual:Str) (H:Hp):Prop:=H P=some (.eF #[])\/∃c',rQ P pos qual c' H
theorem rQ.mono {P:Addr}{pos:Pos}{qual:Str}{c':Addr}{H H':Hp}(h:rQ P pos qual c' H)(k:∀b o,(b=P\/b=c')->H b=some o->H' b=some o):rQ P pos qual c' H':=⟨k _ _ (.inl rfl) h.1,k _ _ (.inr rfl) h.2⟩
noncomputable def BM (mg:Str->Option Value) (base:Heap):Prop:=
 ∃bm o,mg "__builtins__"=some (.ref bm)/\bm≠builtinsNs/\bm≠mainGlobals/\base.get? bm=some o/\o.cls=.type "module"/\o.dict=some builtinsNs/\o.data=.plain
section
variable {X:Cx}{pins:List (Addr × Obj)}{σ:St}{H:Hp}{s:Shared}
theorem Inv.Uj (I:Inv X pins σ H s){P b:Addr}{o:HO}{u:Obj}(e:H P=some o)(hb:X.base.get? b=some u):b≠P:=λz=>by
 have:=(I.bs b u hb).2
 rw[z,e] at this;cases this
theorem Inv.Uk (I:Inv X pins σ H s)(B:BM X.mg X.base){P:Addr}{o:HO}(e:H P=some o):s.heap.BuiltinsAt X.mg P:=by
 obtain⟨bm,ob,b1,b2,b3,b4,b5⟩:=B
 exact⟨bm,ob,b1,b2,b3,I.Uj e b4,(I.bs bm ob b4).1,b5⟩
theorem Inv.adopt {b:Addr}{o:HO}{h':Heap}{t':Nat}(I:Inv X pins σ H s)(f:fY X pins H b)(k:∀c u,c≠b->s.heap.get? c=some u->h'.get? c=some u)(new:eG X.prog X.w (upd H b o) h' b o):
 Inv X pins σ (upd H b o) { s with heap:=h',toks:=t' }:=by
 obtain⟨f0,f1,f2,f3,f4,f5⟩:=f
 have nb:∀c u,H c=some u->c≠b:=λc u e=>aJ e f0
 refine I.step (g':=s.gens) (d':=s.drawn) (ch:=[b]) (λc hc=>?_) (λc u _ _ hc e _=>k c u (λz=>hc (by simp[z])) e) (λc u _ _ hc e _=>⟨u.slots,k c u (λz=>hc (by simp[z])) e⟩) (λc u hc e n=>?_)
  (λc u hc e=>⟨u,k c u (λz=>hc (by simp[z])) e⟩) (λc xs e=>?_) (λc ob u e=>?_) (λc ps e=>⟨#[],?_⟩) (λm hm=>?_) (λc u e=>?_) I.bare
 . have e:c=b:=by simpa using hc
   subst e
   exact⟨f3,f1,f4,f5⟩
 . rw[aq (λz=>hc (by simp[z]))];exact n
 . rw[aq (nb _ _ e)];exact e
 . rw[aq (nb _ _ e)];exact e
 . rw[aq (nb _ _ e),e];simp
 . obtain⟨ob,es,ep,ho,r⟩:=hm
   exact⟨ob,es,ep,k _ ob (Ne.symm f1) ho,r⟩
 . by_cases hc:c=b
   . subst hc
     rw[aG] at e;cases e
     exact new
   . rw[aq hc] at e
     refine(I.hok c u e).stay (λd v hd q=>k d v ?_ q) (λd q=>by rw[aq (nb _ _ q)];exact q) λd xs q=>by rw[aq (nb _ _ q)];exact q
     rcases hd with z|z
     . rw[z];exact hc
     . exact nb _ _ z
theorem Inv.own {b:Addr}{h':Heap}{t':Nat}(I:Inv X pins σ H s)(f:fY X pins H b)(hs:Heap.SameBut b s.heap h'):Inv X pins σ H { s with heap:=h',toks:=t' }:=
 I.turned (t':=t') (λc u hc e=>(hs.2 c hc).trans e) f.1 f.2.1 f.2.2.2.1 f.2.2.2.2.1 f.2.2.2.2.2
theorem ad0 {name qual:Str}{params:Arguments}{body:Expr}{scope:Scope}{pos:Pos}{firstLine:Nat}{cl:List (Str × Addr)}{c P:Addr}{Q:Value->Shared->Prop}{E:Value->Shared->Prop}(I:Inv X pins σ H s)(hcode:X.env.code=.ref c)(C:W.CodeHd X.base c P)
 (B:BM X.mg X.base) (T:bU P pos qual H) (hcl:closureFor scope X.env=pure cl)
 (h:∀(f c':Addr) (pm ctv:Value) (H':Hp) (s':Shared),Inv X (pins++[(f,W.kla_obj name qual params body scope cl pm c' ctv)]) σ H' s'->rQ P pos qual c' H'->(∀b o,b≠P->H b=some o->H' b=some o)->Q (.ref f) s'):
 wpAny (model X.prog X.w) X.A (makeFunction name qual params (.expr body) scope X.env [] [] [] pos firstLine) Q E s:=by
 have hg:s.heap.Ns mainGlobals X.mg:=I.mod.glob.keeps I.bk
 have C':=C.keeps I.bk
 have lay:∀{H':Hp} {s':Shared} {f:Addr} {o:Obj},Inv X pins σ H' s'->s'.heap.get? f=some o->H' f=none->s.heap.objs.size<=f->(∀v,o.data≠ .cell v)->Inv X (pins++[(f,o)]) σ H' s':=λ{H' s' f o} J e n hz d=>
  J.pH λp hp=>(List.mem_append.mp hp).elim (λz=>J.pin p (List.mem_append_right _ z)) λz=>by
    have:p=(f,o):=by simpa using z
    subst this
    exact⟨e,n,Nat.ne_of_gt (Nat.lt_of_lt_of_le I.lt hz),I.uq hz,d⟩
 rcases T with e|⟨c',e1,e2⟩
 . have hP:s.heap.get? P=some (W.tabObj #[]):=I.hok P _ e
   have hPs:P<s.heap.objs.size:=Heap.lt_size hP
   have hgP:mainGlobals≠P:=by
    obtain⟨o,es,ep,eo,_⟩:=I.mod.glob
    exact I.Uj e eo
   refine W.kla_makeFunction (mg:=X.mg) hcl I.ok.glob hg hcode C' hP trivial rfl hgP (I.Uk B e) λc' ctv h' tk hx hge hlt hrec htb=>?_
   have Ul:c'≠P:=Nat.ne_of_gt (Nat.lt_of_lt_of_le hPs hge)
   have hcn:H c'=none:=I.hok.fresh hge
   have nP:∀b u,H b=some u->u≠ .eF #[]->b≠P:=λb u q d z=>by
    rw[z,e] at q
    exact d (Option.some.inj q).symm
   have nC:∀b u,H b=some u->b≠c':=λb u q=>aJ q hcn
   have kk:∀(ob:Obj) b u,b≠P->s.heap.get? b=some u->(h'.push ob).get? b=some u:=λob b u hb q=>Heap.get?_push_of_some _ (hx b u hb q)
   have I1:Inv X pins σ (upd (upd H P (.eF (#[]++#[rawInt pos.line,rawInt pos.col,.ref c']))) c' (.ext (A_ c' qual))) { s with heap:=h'.push (W.kla_obj name qual params body scope cl ((X.mg "__name__").getD .none) c' ctv),toks:=tk }:=by
    refine I.step (g':=s.gens) (d':=s.drawn) (ch:=[]) (λ_ z=>nomatch z) (λb o _ _ _ q n=>kk _ b o (λz=>by rw[z,e] at n;cases n) q) (λb o _ _ _ q n=>⟨o.slots,kk _ b o (λz=>by rw[z,e] at n;cases n) q⟩)
     (λb o _ q n=>?_) (λb o _ q=>?_) (λb xs q=>?_) (λb o u q=>?_) (λb ps q=>?_) (λm hm=>?_) (λb o q=>?_) I.bare
    . have b1:b≠P:=λz=>by rw[z,e] at n;cases n
      have b2:b≠c':=Nat.ne_of_lt (Nat.lt_of_lt_of_le (Heap.lt_size q) hge)
      rw[aq b2,aq b1];exact n
    . by_cases hb:b=P
      . subst hb
        exact⟨_,Heap.get?_push_of_some _ htb⟩
      . exact⟨o,kk _ b o hb q⟩
    . rw[aq (nC _ _ q),aq (nP _ _ q (by intro z;cases z))];exact q
    . rw[aq (nC _ _ q),aq (nP _ _ q (by intro z;cases z))];exact q
    . by_cases hb:b=P
      . subst hb
        rw[e] at q;cases q
        exact⟨_,by rw[aq (Ne.symm Ul),aG]⟩
      . exact⟨#[],by rw[aq (nC _ _ q),aq hb,q];simp⟩
    . obtain⟨o,es,ep,ho,r⟩:=hm
      exact⟨o,es,ep,kk _ _ o (λz=>by have:=I.free;rw[z,e] at this;cases this) ho,r⟩
    . by_cases hb:b=c'
      . subst hb
        rw[aG] at q;cases q
        obtain⟨c₂,oc,vs,t,z1,z2,z3,z4⟩:=hrec
        cases z1
        refine⟨⟨_,oc,vs,t,rfl,Heap.get?_push_of_some _ z2,z3,z4⟩,⟨oc,Heap.get?_push_of_some _ z2⟩,λh1 h2 y hy=>?_⟩
        obtain⟨c₃,oc',vs',t',y1,y2,y3,y4⟩:=y
        cases y1
        exact⟨_,oc',vs',t',rfl,hy _ y2,y3,y4⟩
      . rw[aq hb] at q
        by_cases hp:b=P
        . subst hp
          rw[aG] at q;cases q
          show(h'.push _).get? b=some { cls:=.none,data:=.fields _ }
          exact Heap.get?_push_of_some _ htb
        . rw[aq hp] at q
          refine(I.hok b o q).stay (λd v hd y=>kk _ d v ?_ y) (λd y=>by rw[aq (nC _ _ y),aq (nP _ _ y (by intro z;cases z))];exact y) λd xs y=>by rw[aq (nC _ _ y),aq (nP _ _ y (by intro z;cases z))];exact y
          rcases hd with z|z
          . rw[z];exact hp
          . exact nP _ _ z (by intro z;cases z)
   have fz:s.heap.objs.size<=h'.objs.size:=Nat.le_of_lt (Nat.lt_of_le_of_lt hge hlt)
   have fn:upd (upd H P (.eF (#[]++#[rawInt pos.line,rawInt pos.col,.ref c']))) c' (.ext (A_ c' qual)) h'.objs.size=none:=by
    rw[aq (Nat.ne_of_gt hlt),aq (Nat.ne_of_gt (Nat.lt_of_lt_of_le hPs fz))]
    exact I.hok.fresh fz
   refine h h'.objs.size c' ((X.mg "__name__").getD .none) ctv _ _ (lay I1 (Heap.get?_push_size _ rfl) fn fz (by intro v z;cases z)) ⟨by rw[aq (Ne.symm Ul),aG];rfl,aG⟩ λb o hb q=>?_
   rw[aq (nC _ _ q),aq hb];exact q
 . have hP:s.heap.get? P=some (W.tabObj #[rawInt pos.line,rawInt pos.col,.ref c']):=I.hok P _ e1
   refine W.kla_makeFunctionHit (mg:=X.mg) (cv:=.ref c') hcl I.ok.glob hg hcode C' hP (by simp[TriplesOk,rawInt]) (by simp[codeAmong,rawInt]) (I.Uk B e1) λctv h' tk hk hsz=>?_
   exact h h'.objs.size c' ((X.mg "__name__").getD .none) ctv H _ (lay (I.kept λb u q=>Heap.get?_push_of_some _ (hk b u q)) (Heap.get?_push_size _ rfl) (I.hok.fresh hsz) hsz (by intro v z;cases z)) ⟨e1,e2⟩ λb o _ q=>q
structure uN (X:Cx) (x:Str) (N':List Str) (scope:Scope):Prop where
 kind:scope.kind=.function
 co:scope.isCoroutine=false
 gen:scope.isGenerator=false
 cell:∀y∈scope.names,y.2≠ .cell
 loc:scope.names.lookup x=some .local
 free:∀y∈scope.names,y.2=.free->X.env.kindOf y.1=some .cell\/X.env.kindOf y.1=some .free
 len:N'.length=X.N.length
 outer:∀(i:Nat) (y:Str),N'[i]? =some y->scope.names.lookup y=none\/(X.N[i]? =some y/\scope.names.lookup y≠some .local)
noncomputable def rR (scope:Scope):List Str->List Str->Bool
 |[],[]=>true
 |y::r,z::q=>(decide (scope.names.lookup y=none) || (decide (z=y) && decide (scope.names.lookup y≠some .local))) && rR scope r q
 |_,_=>false
theorem Um {scope:Scope}:∀{N' N:List Str},rR scope N' N=true->N'.length=N.length
 |[],[],_=>rfl
 |y::r,z::q,h=>by
  simp only[rR,Bool.and_eq_true] at h
  rw[List.length_cons,List.length_cons,Um h.2]
theorem Uo {scope:Scope}:∀{N' N:List Str},rR scope N' N=true->∀(i:Nat) (y:Str),N'[i]? =some y->scope.names.lookup y=none\/(N[i]? =some y/\scope.names.lookup y≠some .local)
 |[],[],_,i,y,e=>by simp at e
 |w::r,z::q,h,0,y,e=>by
  simp only[rR,Bool.and_eq_true,Bool.or_eq_true,decide_eq_true_eq] at h
  have e:some w=some y:=e
  cases e
  rcases h.1 with h1|⟨h1,h2⟩
  . exact .inl h1
  . subst h1;exact .inr ⟨rfl,h2⟩
 |w::r,z::q,h,i+1,y,e=>by
  simp only[rR,Bool.and_eq_true] at h
  have:=Uo h.2 i y (by simpa using e)
  simpa using this
noncomputable def Uq (x:Str) (N' N:List Str) (scope sc:Scope):Bool:=
 scope.names.all (λy=>decide (y.2≠ .cell)) && decide (scope.names.lookup x=some .local) && scope.names.all (λy=>decide (y.2=.free->sc.names.lookup y.1=some .cell\/sc.names.lookup y.1=some .free)) && rR scope N' N
theorem uN.of {x:Str}{N' N:List Str}{scope sc:Scope}(hsc:X.env.scope=sc)(hN:X.N=N)(k:scope.kind=.function)(c1:scope.isCoroutine=false)(c2:scope.isGenerator=false)(c:Uq x N' N scope sc=true):uN X x N' scope:=by
 unfold Uq at c
 simp only[Bool.and_eq_true,List.all_eq_true,decide_eq_true_eq] at c
 obtain⟨⟨⟨a1,a2⟩,a3⟩,a4⟩:=c
 exact⟨k,c1,c2,a1,a2,λy hy hf=>by rw[show X.env.kindOf y.1=X.env.scope.names.lookup y.1 from rfl,hsc];exact a3 y hy hf,by rw[hN];exact Um a4,by rw[hN];exact Uo a4⟩
noncomputable abbrev Ba (qual:Str) (scope:Scope) (cl:List (Str × Addr)) (f c':Addr) (s:Shared):Env:=W.envX qual scope s.heap.objs.size f (.ref c') cl
noncomputable def Bb (X:Cx) (x:Str) (N':List Str) (scope:Scope) (cl:List (Str × Addr)) (qual:Str) (f c':Addr) (s:Shared) (H:Hp):Cx:=
 { X with A:=X.A.in1.in1.deeper (Ba qual scope cl f c' s),N:=x::N',s₀:=s,H₀:=H,env:=Ba qual scope cl f c' s,outer:=X.stack,stack:=Ba qual scope cl f c' s::X.stack,ex:=[],fn:=λ_=>false,pn:=[],calm:=true,xe:=λ_ _=>False }
theorem Inv.lam {x:Str}{N':List Str}{scope:Scope}{cl:List (Str × Addr)}{qual:Str}{f c':Addr}{v:V}{u:Value}{h₁:Heap}{t':Nat}(I:Inv X pins σ H s)(S:uN X x N' scope)(hd:X.A.handled=none)
 (hsub:∀y c,cl.lookup y=some c->X.env.cells.lookup y=some c) (hget:∀y,(y,NameKind.free)∈scope.names->cl.lookup y=X.env.cells.lookup y) (r:RelV v u)
 (hn:h₁.Ns s.heap.objs.size (λy=>([(x,u)]:List (Str × Value)).reverse.lookup y)) (old:∀b o,s.heap.get? b=some o->h₁.get? b=some o):
 Inv (Bb X x N' scope cl qual f c' s H) [] (some v::σ) H { s with heap:=h₁,toks:=t' }:=by
 have ok:=I.ok
 have hfree:∀y,(scope.names.lookup y=some .cell\/scope.names.lookup y=some .free)->(y,NameKind.free)∈scope.names:=λy hy=>by
  rcases hy with hy|hy
  . exact absurd rfl (S.cell _ (PySem.mem_of_lookup hy))
  . exact PySem.mem_of_lookup hy
 refine⟨⟨ok.mod,S.kind,rfl,rfl,Nat.le_refl _,λy z c e1 e2=>ok.inj y z c (hsub y c e1) (hsub z c e2),λy hy=>?_,λy c hy _=>(nomatch hy),λ_=>hd,Around.frames_deeper (show X.A.in1.in1.frames=some X.stack from ok.frames),.inr ⟨rfl,rfl⟩,λb hb=>absurd (show b∈([]:List Addr) from hb) (by simp),I.bs,Nat.le_trans ok.jU I.sz,
  λb o _ hb=>absurd (show b∈([]:List Addr) from hb) (by simp),λb hb=>absurd (show b∈([]:List Addr) from hb) (by simp),I.stack,I.wA⟩,
  rfl,I.bare,Un.kept old,⟨_,hn,λi y v' e1 e2 e3=>?_⟩,λy c e=>?_,I.hok.fresh (Nat.le_refl _),λy c e=>I.gR y c (hsub y c e),λp hp=>absurd (show p∈([]:List (Addr × Obj)) from hp) (by simp),I.hok.kept old,?_⟩
 . have hm:=hfree y hy
   obtain⟨c,e⟩:=ok.has y (S.free _ hm rfl)
   exact⟨c,by rw[show(Bb X x N' scope cl qual f c' s H).env.cells=cl from rfl,hget y hm];exact e⟩
 . cases i with
   |zero=>
    have e1:some x=some y:=e1
    cases e1
    have e2:some (some v)=some (some v'):=e2
    cases e2
    exact⟨u,r,.inl ⟨S.loc,by simp⟩⟩
   |succ i=>
    have e1:N'[i]? =some y:=by
     have e1:(x::N')[i+1]? =some y:=e1
     simpa using e1
    have e2:σ[i]? =some (some v'):=by simpa using e2
    have ho:X.N[i]? =some y/\scope.names.lookup y≠some .local:=by
     have e3:scope.names.lookup y=some .local\/scope.names.lookup y=some .cell\/scope.names.lookup y=some .free:=e3
     rcases S.outer i y e1 with q|q
     . rw[q] at e3
       rcases e3 with z|z|z <;> cases z
     . exact q
    have hk2:scope.names.lookup y=some .cell\/scope.names.lookup y=some .free:=by
     rcases e3 with q|q
     . exact absurd q ho.2
     . exact q
    have hm:=hfree y hk2
    have wW:=S.free _ hm rfl
    obtain⟨mX,hnX,Gk⟩:=I.loc
    obtain⟨u',r',lk⟩:=Gk i y v' ho.1 e2 (.inr wW)
    refine⟨u',r',.inr ⟨hk2,?_⟩⟩
    rcases lk with⟨q,_⟩|⟨_,c,ec,hc⟩
    . rcases wW with z|z
      . rw[z] at q;cases q
      . rw[z] at q;cases q
    . obtain⟨o,ho,hdd⟩:=hc
      exact⟨c,(hget y hm).trans ec,o,old _ _ ho,hdd⟩
 . obtain⟨w',o,ho,hdd⟩:=I.cell y c (hsub y c e)
   exact⟨w',o,old _ _ ho,hdd⟩
 . show _=(x::N').length
   rw[List.length_cons,List.length_cons,I.len,S.len]
theorem ad1 {x:Str}{N':List Str}{name qual:Str}{params:Arguments}{body:Expr}{scope:Scope}{cl:List (Str × Addr)}{f c':Addr}{pm ctv:Value}{v:V}{u:Value}{te:TE}{Q:VK}{E:Value->Shared->Prop}(I:Inv X pins σ H s)(S:uN X x N' scope)(hd:X.A.handled=none)(ad2:X.A.depth<recursionLimit)
 (hsub:∀y c,cl.lookup y=some c->X.env.cells.lookup y=some c) (hget:∀y,(y,NameKind.free)∈scope.names->cl.lookup y=X.env.cells.lookup y) (hf:(f,W.kla_obj name qual params body scope cl pm c' ctv)∈pins) (hc:H c'=some (.ext (A_ c' qual)))
 (hb:∀u:Value,bindArgs (W.kla_fn name qual params body scope cl pm (.ref c') ctv) ⟨[u],[]⟩=pure [(x,u)]) (r:RelV v u) (he:∀(s:Shared) (H:Hp),PE (Bb X x N' scope cl qual f c' s H) body te) (h:te (some v::σ) H Q):
 wpAny (model X.prog X.w) X.A.in1.in1 (call (.ref f) [u]) (EP X pins σ Q) E s:=by
 obtain⟨p1,p2,p3,p4,p5⟩:=I.pin _ (List.mem_append_right _ hf)
 refine wpAny_call (W.kla_callFunE ad2 p1 rfl S.co S.gen rfl (I.hok c' _ hc).1 ?_)
 rw[hb]
 refine wpAny_pure (wpAny_newFunctionEnv S.cell (λy hy=>?_) (λh₁ hns hsb=>?_) S.kind)
 . have e:y=(x,u):=by simpa using hy
   subst e
   exact S.loc
 have old:∀b o,s.heap.get? b=some o->h₁.get? b=some o:=λb o e=>hsb.extBut b o (Nat.ne_of_lt (Heap.lt_size e)) (Heap.get?_push_of_some _ e)
 refine⟨I.nolimit.keeps old,?_⟩
 show codeAny _ _ (.expr body (Ba qual scope cl f c' s)) _ _
 have J:=I.lam (t':=s.toks+([(x,u)]:List (Str × Value)).length) (qual:=qual) (f:=f) (c':=c') S hd hsub hget r hns old
 refine W.kla_codeExpr (wpAny_mono (he s H [] _ _ H Q J h) (λu' s' hq=>?_) λe s' hF=>hF.elim)
 obtain⟨v',H',J',rv,q⟩:=hq
 exact I.after ⟨v',H',J'.os,J'.bare,J'.base,J'.hok,rv,q⟩
end
section
variable {X:Cx}{pins:List (Addr × Obj)}{σ:St}{H:Hp}{s:Shared}
noncomputable def Asks (prog:Program) (w:World) (A:Around) (s:Shared) (us:List Value) {O:KeyOrd}(key:Nat->O.α):Prop:=
 2<=us.length->wpAny (model prog w) A (keyKind' us.toArray) (λκ s'=>s'=s/\∀(i j:Nat) (C:Bool->Shared->Prop),i<us.length->j<us.length->C (O.blt (key i) (key j)) s->W.kas_ask prog w A κ us i j C s) (λ_ _=>False) s
theorem GF {xs:List V}{vs:List Value}(r:Vals xs vs):∀p:List Nat,Vals (p.map λi=>xs.getD i .non) (p.map λi=>vs.getD i Value.none)
 |[]=>.nil
 |i::p=>by
  refine .cons ?_ (GF r p)
  show RelV (xs.getD i .non) (vs.getD i Value.none)
  rw[List.getD_eq_getElem?_getD,List.getD_eq_getElem?_getD]
  cases e:xs[i]? with
  |none=>
   rw[r.none_of e]
   exact rfl
  |some x=>
   obtain⟨u,hu,ru⟩:=r.get e
   rw[hu]
   exact ru
theorem GJ {α:Type}(a0:α)(l:List α):((List.range l.length).map λi=>l.getD i a0)=l:=by
 apply List.ext_getElem
 . simp
 . intro i h1 h2
   simp[h2]
theorem ad3 {us vs:List Value}(hl:us.length=vs.length):((List.toArray us).zip (List.toArray vs)).map (·.2)=List.toArray vs:=by
 apply Array.toList_inj.mp
 rw[Array.toList_map,ksk_zip]
 show List.map Prod.snd (us.zip vs)=vs
 exact List.map_snd_zip (by omega)
theorem ad4 {α:Type}{R:α->α->Prop}(key:Nat->α){n:Nat}(h:n<2):((List.range n).map key).Pairwise R:=by
 have:n=0\/n=1:=by omega
 rcases this with rfl|rfl
 . exact List.Pairwise.nil
 . exact List.pairwise_singleton _ _
noncomputable abbrev lo (xs:List Value) (n:Nat):Obj:=seqObj "list" (List.toArray xs) n
theorem Ur {E:Value->Shared->Prop}{kS D:Addr}{us:List Value}{e e1:Nat}{st:SortSt}{out:List Value}{outV:List V}{P:PySem.Fin->Shared->Prop}{A:Around}(I:Inv X (pins++[(kS,lo us e),(D,lo [] e1)]) σ H s)(fK:fY X pins H kS)(fD:fY X pins H D)(hne:kS≠D)(hus:us.length<64)(ho:out.length<64)
 (hout:(arrOf st).map (·.2)=List.toArray out) (hf:failedOf st=none) (rv:Vals outV out)
 (h:∀s',Inv X pins σ (upd H D (.lst outV)) s'->P (.done (.ret .none)) s'):wpAny (model X.prog X.w) A (ksk_tail D false e1 (.ref kS) st) P E s:=by
 have nk:=(I.pin (kS,lo us e) (List.mem_append_right _ (List.mem_append_right _ (List.mem_cons_self)))).1
 have nD:=(I.pin (D,lo [] e1) (List.mem_append_right _ (List.mem_append_right _ (List.mem_cons_of_mem _ List.mem_cons_self)))).1
 have s1:=Heap.SameBut.update s.heap kS (Obj.mapSeq λ_=>(#[]:Array Value))
 have GK:(s.heap.update kS (Obj.mapSeq λ_=>(#[]:Array Value))).get? D=some (lo [] e1):=(s1.2 D hne.symm).trans nD
 have s2:=Heap.SameBut.update (s.heap.update kS (Obj.mapSeq λ_=>(#[]:Array Value))) D (Obj.mapSeq λ_=>List.toArray out)
 obtain⟨c2,hc2⟩:∃c2,((s.heap.update kS (Obj.mapSeq λ_=>(#[]:Array Value))).update D (Obj.mapSeq λ_=>List.toArray out)).get? D=some (lo out c2):=⟨_,get?_update_seq GK λ_=>List.toArray out⟩
 have I1:Inv X pins σ H { s with heap:=s.heap.update kS (Obj.mapSeq λ_=>(#[]:Array Value)) }:=I.pO.own (t':=s.toks) fK s1
 have I2:Inv X pins σ (upd H D (.lst outV)) { s with heap:=(s.heap.update kS (Obj.mapSeq λ_=>(#[]:Array Value))).update D (Obj.mapSeq λ_=>List.toArray out) }:=
  I1.adopt (t':=s.toks) fD (λc u hc q=>(s2.2 c hc).trans q) ⟨by rw[rv.length];exact Nat.le_of_lt (wU (by omega)),out,c2,rv,hc2⟩
 unfold ksk_tail
 try dsimp only
 rw[hout]
 refine wpAny_bind (listUpdate_at nk rfl ?_ (by rw[List.size_toArray,sizeLine_eq];omega) (Nat.zero_le _))
 refine wpAny_bind (wpAny_letGo ?_)
 refine wpAny_bind (seqEpoch_at GK rfl ?_)
 refine wpAny_bind (listUpdate_at GK rfl ?_ (Nat.zero_le _) (by show(List.toArray out).size<=_;rw[List.size_toArray,sizeLine_eq];omega))
 rw[hf]
 simp only[bne_self_eq_false,Bool.false_eq_true,if_false]
 exact wpAny_pure (h _ I2)
theorem ad5 {E:Value->Shared->Prop}{kS D:Addr}{us vs:List Value}{xs:List V}{e e1:Nat}{P:PySem.Fin->Shared->Prop}{A:Around}{O:KeyOrd}{key:Nat->O.α}(I:Inv X (pins++[(kS,lo us e),(D,lo [] e1)]) σ H s)(fK:fY X pins H kS)(fD:fY X pins H D)(hne:kS≠D)
 (hl:us.length=vs.length) (h64:vs.length<64) (rv:Vals xs vs) (ask:Asks X.prog X.w A s us key)
 (h:∀(p:List Nat),p.Perm (List.range vs.length)->(p.map key).Pairwise O.kle->∀s',Inv X pins σ (upd H D (.lst (p.map λi=>xs.getD i .non))) s'->P (.done (.ret .none)) s'):
 wpAny (model X.prog X.w) A (ksk_end D false (List.toArray vs) e1 (.ref kS) (List.toArray us)) P E s:=by
 unfold ksk_end
 try dsimp only
 simp only[Bool.false_eq_true,if_false]
 by_cases h2:vs.toArray.size<2
 . rw[if_pos h2,if_pos h2]
   have h2':vs.length<2:=by simpa using h2
   refine wpAny_bind (wpAny_pure ?_)
   rw[StateT.run_pure]
   refine wpAny_bind (wpAny_pure ?_)
   try dsimp only
   have hlen:xs.length=vs.length:=rv.length
   have ez:((List.range vs.length).map λi=>xs.getD i .non)=xs:=by
    rw[<-hlen];exact GJ _ xs
   refine Ur (out:=vs) (outV:=xs) (st:=SortSt.mk' general' ((List.toArray us).zip (List.toArray vs)) #[] 7 none) I fK fD hne (by omega) h64 (ad3 hl) rfl rv λs' J=>?_
   have q:=h (List.range vs.length) (List.Perm.refl _) (ad4 key h2') s'
   rw[ez] at q
   exact q J
 . rw[if_neg h2,if_neg h2]
   have h2':2<=vs.length:=by simpa using h2
   refine wpAny_bind (wpAny_mono (ask (by omega)) (λκ s' hk=>?_) λ_ _ hF=>hF.elim)
   obtain⟨rfl,hk⟩:=hk
   obtain⟨k1,k2⟩:=jt.Ui (key:=key) (n:=vs.length) (by omega)
   refine wpAny_bind (wpAny_mono (W.kat_run (κ:=κ) (ks:=us) (vs:=vs) (Q:=λst' s''=>s''=s'/\arrOf st'=(jt.bO (jt.cg key) (W.kas_sort vs.length)).map (W.kas_item ((List.toArray us).zip vs.toArray))/\failedOf st'=none)
    (G:=λp s''=>s''=s'/\p=jt.bO (jt.cg key) (W.kas_sort vs.length)) hl h2' h64 (λp st' s'' _ a2 a3 a4=>⟨a4.1,by rw[a2,a4.2],a3⟩)
    (jt.Gv (f:=jt.cg key) (λi j C hi hj q=>hk i j C (by omega) (by omega) q) (jt.Ud (by omega)) ⟨rfl,rfl⟩)) ?_ λ_ _ x=>x)
   rintro⟨⟨⟩,st'⟩ s'' ⟨rfl,har,hfl⟩
   try dsimp only
   refine Ur I fK fD hne (by omega) (by rw[List.length_map,k1.length_eq,List.length_range];exact h64) (W.kat_snds hl har) hfl (GF rv _) λs' J=>h _ k1 k2 s' J
theorem ad6 {E:Value->Shared->Prop}{f a:Addr}{xs:List V}{Q:VK}{W:List V->Hp->Prop}(I:Inv X pins σ H s)(hq:aL X.K H a xs)(h64:xs.length<64)(w0:W [] H)
 (turn:∀(pl:List (Addr × Obj)) (s':Shared) (H':Hp) (ks:List V) (y:V) (u:Value),Inv X (pins++pl) σ H' s'->W ks H'->xs[ks.length]? =some y->RelV y u->
   wpAny (model X.prog X.w) X.A.in1.in1 (call (.ref f) [u]) (EP X (pins++pl) σ λk lY=>W (ks++[k]) lY) (λ_ _=>False) s')
 (fin:∀(pl:List (Addr × Obj)) (s':Shared) (H':Hp) (ks:List V) (us:List Value),Inv X (pins++pl) σ H' s'->W ks H'->ks.length=xs.length->Vals ks us->∃(O:KeyOrd) (key:Nat->O.α),Asks X.prog X.w X.A.in1.in1 s' us key/\
   ∀p:List Nat,p.Perm (List.range xs.length)->(p.map key).Pairwise O.kle->∀D,H' D=none->Q (.ref D) (upd H' D (.lst (p.map λi=>xs.getD i .non)))):
 wpAny (model X.prog X.w) X.A (call (.builtin "sorted") [.ref a] [(Str.ofString "key",.ref f)]) (EP X pins σ Q) E s:=by
 obtain⟨vs,rv,pl,hz⟩:=I.list hq
 have hl:xs.length=vs.length:=rv.length
 refine call_function_entry_kw kind_sorted plain_sorted entry_sorted (ksk_s1 _ _) ?_
 unfold Builtin.«sorted»
 refine wpAny_bind (m:=checkCount "sorted" 1 1 _) (wpAny_pure ?_)
 refine wpAny_bind (collect_list pl.isList ?_ (by rw[sizeLine_eq];omega))
 refine wpAny_bind (wpAny_newList ?_ (by rw[sizeLine_eq];omega))
 have hsz:((s.heap.push (seqObj "list" #[] 0)).update s.heap.objs.size (Obj.mapSeq (· ++vs.toArray))).objs.size=s.heap.objs.size+1:=by
  rw[Heap.size_update,size_push']
 have hoL:(((s.heap.push (seqObj "list" #[] 0)).update s.heap.objs.size (Obj.mapSeq (· ++vs.toArray))).push (seqObj "list" vs.toArray 0)).get? (s.heap.objs.size+1)=some (seqObj "list" vs.toArray 0):=by
  rw[<-hsz];exact Heap.get?_push_size _ rfl
 have keep:∀b o,s.heap.get? b=some o->(((s.heap.push (seqObj "list" #[] 0)).update s.heap.objs.size (Obj.mapSeq (· ++vs.toArray))).push (seqObj "list" vs.toArray 0)).get? b=some o:=λb o q=>by
  have hlt:b<s.heap.objs.size:=Heap.lt_size q
  rw[Heap.get?_push_ne _ _ _ (by rw[hsz];exact Nat.ne_of_lt (Nat.lt_succ_of_lt hlt)),Heap.get?_update_ne _ _ _ _ (Nat.ne_of_lt hlt),Heap.get?_push_ne _ _ _ (Nat.ne_of_lt hlt)]
  exact q
 show wpAny _ _ _ _ _ { s with heap:=((s.heap.push (seqObj "list" #[] 0)).update s.heap.objs.size (Obj.mapSeq (· ++vs.toArray))).push (seqObj "list" vs.toArray 0) }
 rw[hsz]
 generalize hG:((s.heap.push (seqObj "list" #[] 0)).update s.heap.objs.size (Obj.mapSeq (· ++vs.toArray))).push (seqObj "list" vs.toArray 0)=G at hoL keep ⊢
 have hGs:G.objs.size=s.heap.objs.size+2:=by rw[<-hG,size_push',hsz]
 have I1:Inv X pins σ H { s with heap:=G }:=I.kept (t':=s.toks) keep
 refine wpAny_bind (wpAny_holding (wpAny_call_entry_kw slot_list_sort ⟨_,hoL,rfl⟩ entry_list_sort ?body (ksk_l1 _ _)))
 case body=>
  show wpAny (model X.prog X.w) X.A.in1.in1 (Builtin.«list.sort» ⟨[.ref (s.heap.objs.size+1)],[(Str.ofString "key",.ref f)]⟩) _ _ _
  rw[ksk_t1]
  unfold ksk_tree
  generalize hD:s.heap.objs.size+1=D at hoL ⊢
  have Us:s.heap.objs.size<=D:=by omega
  have s1:=Heap.SameBut.update G D (Obj.mapSeq λ_=>(#[]:Array Value))
  obtain⟨e1,ho1⟩:∃e1,(G.update D (Obj.mapSeq λ_=>(#[]:Array Value))).get? D=some (lo [] e1):=⟨_,get?_update_seq hoL λ_=>#[]⟩
  refine wpAny_bind (listItems_at hoL rfl ?_)
  refine wpAny_bind (listUpdate_at hoL rfl ?_ (by rw[List.size_toArray,sizeLine_eq];omega) (Nat.zero_le _))
  refine wpAny_bind (seqEpoch_at ho1 rfl ?_)
  refine wpAny_bind (wpAny_newTuple ?_ (by show vs.length<=_;rw[sizeLine_eq];omega))
  refine wpAny_bind (wpAny_newList ?_ (Nat.zero_le _))
  refine wpAny_holding ?_
  show wpAny (model X.prog X.w) X.A.in1.in1 _ _ _ { s with heap:=((G.update D (Obj.mapSeq λ_=>(#[]:Array Value))).push (seqObj "tuple" vs.toArray 0)).push (seqObj "list" #[] 0) }
  generalize hkS:((G.update D (Obj.mapSeq λ_=>(#[]:Array Value))).push (seqObj "tuple" vs.toArray 0)).objs.size=kS
  have ash:kS=s.heap.objs.size+3:=by rw[<-hkS,size_push',Heap.size_update,hGs]
  have hne:kS≠D:=by omega
  have oJ:fY X pins H D:=I.ux Us (I.hok.fresh Us)
  have Bc:fY X pins H kS:=I.ux (by omega) (I.hok.fresh (by omega))
  have ad8:∀b o,b≠D->G.get? b=some o->(((G.update D (Obj.mapSeq λ_=>(#[]:Array Value))).push (seqObj "tuple" vs.toArray 0)).push (seqObj "list" #[] 0)).get? b=some o:=λb o hb q=>
   Heap.get?_push_of_some _ (Heap.get?_push_of_some _ ((s1.2 b hb).trans q))
  have I2:Inv X pins σ H { s with heap:=((G.update D (Obj.mapSeq λ_=>(#[]:Array Value))).push (seqObj "tuple" vs.toArray 0)).push (seqObj "list" #[] 0) }:=
   Inv.turned (s:={ s with heap:=G }) (t':=s.toks) (it:=D) I1 ad8 oJ.1 oJ.2.1 oJ.2.2.2.1 oJ.2.2.2.2.1 oJ.2.2.2.2.2
  have hK:(((G.update D (Obj.mapSeq λ_=>(#[]:Array Value))).push (seqObj "tuple" vs.toArray 0)).push (seqObj "list" #[] 0)).get? kS=some (lo [] 0):=by rw[<-hkS];exact Heap.get?_push_size _ rfl
  have hD2:(((G.update D (Obj.mapSeq λ_=>(#[]:Array Value))).push (seqObj "tuple" vs.toArray 0)).push (seqObj "list" #[] 0)).get? D=some (lo [] e1):=Heap.get?_push_of_some _ (Heap.get?_push_of_some _ ho1)
  generalize ((G.update D (Obj.mapSeq λ_=>(#[]:Array Value))).push (seqObj "tuple" vs.toArray 0)).push (seqObj "list" #[] 0)=G2 at I2 hK hD2 ⊢
  have pinned:∀{H':Hp} {s':Shared} {us:List Value} {e:Nat},Inv X pins σ H' s'->s'.heap.get? kS=some (lo us e)->s'.heap.get? D=some (lo [] e1)->H' kS=none->H' D=none->Inv X (pins++[(kS,lo us e),(D,lo [] e1)]) σ H' s':=λ{H' s' us e} J k1 k2 n1 n2=>
   J.pH λp hp=>(List.mem_append.mp hp).elim (λz=>J.pin p (List.mem_append_right _ z)) λz=>by
     have z:p=(kS,lo us e)\/p=(D,lo [] e1):=by simpa using z
     rcases z with rfl|rfl
     . exact⟨k1,n1,Bc.2.1,Bc.2.2.1,by intro v z;cases z⟩
     . exact⟨k2,n2,oJ.2.1,oJ.2.2.1,by intro v z;cases z⟩
  have own:∀{H':Hp} {b:Addr},(b=kS\/b=D)->H' b=none->fY X pins H' b:=λ{H' b} hb n=>by
   rcases hb with rfl|rfl
   . exact⟨n,Bc.2⟩
   . exact⟨n,oJ.2⟩
  unfold ksk_rest
  refine wpAny_bind (wpAny_rule ?_)
  first
   |rw[List.forIn_toArray]
   |(rw[<-Array.forIn_toList];simp only[List.toList_toArray])
   |rw[<-Array.forIn_toList]
  refine wpAny_bind (ksk_fold (λi s'=>∃ks us e H',Inv X (pins++[(kS,lo us e),(D,lo [] e1)]) σ H' s'/\Vals ks us/\ks.length=i/\i<=vs.length/\W ks H') vs 0 _
   ⟨[],[],0,H,pinned I2 hK hD2 Bc.1 oJ.1,.nil,rfl,Nat.zero_le _,w0⟩ (λj x s' hx hJ=>?_) λs' hJ=>?_)
  . obtain⟨ks,us,e,H',J,rk,hi,hle,wk⟩:=hJ
    have hi:ks.length=j:=by omega
    have hj:j<vs.length:=(List.getElem?_eq_some_iff.mp hx).1
    have hjx:j<xs.length:=by omega
    obtain⟨u,hu,ru⟩:=rv.get (List.getElem?_eq_getElem hjx)
    rw[hx] at hu;cases hu
    refine wpAny_bind (wpAny_attempt (wpAny_mono (turn _ s' H' ks (xs[j]) x J wk (by rw[hi];exact List.getElem?_eq_getElem hjx) ru) (λk s'' hk=>?_) λ_ _ hF=>hF.elim))
    obtain⟨kv,lY,J',rkv,w'⟩:=hk
    have pk:=J'.pin (kS,lo us e) (List.mem_append_right _ (List.mem_append_right _ (List.mem_cons_self)))
    have pD:=J'.pin (D,lo [] e1) (List.mem_append_right _ (List.mem_append_right _ (List.mem_cons_of_mem _ List.mem_cons_self)))
    have pX:us.length=ks.length:=rk.length.symm
    have s2:=Heap.SameBut.update s''.heap kS (Obj.mapSeq (·.push k))
    have ea:(List.toArray us).push k=List.toArray (us++[k]):=by simp
    obtain⟨c2,hc2⟩:∃c2,(s''.heap.update kS (Obj.mapSeq (·.push k))).get? kS=some (lo (us++[k]) c2):=⟨_,by show _=some (seqObj "list" (List.toArray (us++[k])) _);rw[<-ea];exact get?_update_seq pk.1 (·.push k)⟩
    try dsimp only
    refine wpAny_bind (listUpdate_at pk.1 rfl ?_ (by rw[List.size_toArray,sizeLine_eq];omega) (Nat.le_trans (Nat.le_of_eq (Array.size_push ..)) (by rw[List.size_toArray,sizeLine_eq];omega)))
    have J2:Inv X pins σ lY { s'' with heap:=s''.heap.update kS (Obj.mapSeq (·.push k)) }:=J'.pO.own (t':=s''.toks) (own (.inl rfl) pk.2.1) s2
    refine wpAny_pure ⟨rfl,ks++[kv],us++[k],c2,lY,pinned J2 hc2 ((s2.2 D hne.symm).trans pD.1) pk.2.1 pD.2.1,rk.append (.cons rkv .nil),by rw[List.length_append,List.length_singleton];omega,by omega,w'⟩
  . obtain⟨ks,us,e,H',J,rk,hi,hle,wk⟩:=hJ
    have hi:ks.length=vs.length:=by omega
    have pk:=J.pin (kS,lo us e) (List.mem_append_right _ (List.mem_append_right _ (List.mem_cons_self)))
    have pD:=J.pin (D,lo [] e1) (List.mem_append_right _ (List.mem_append_right _ (List.mem_cons_of_mem _ List.mem_cons_self)))
    try dsimp only
    refine wpAny_bind (listItems_at pk.1 rfl ?_)
    obtain⟨O,key,ask,q⟩:=fin _ s' H' ks us J wk (by omega) rk
    refine ad5 J (own (.inl rfl) pk.2.1) (own (.inr rfl) pD.2.1) hne (by rw[<-rk.length];exact hi) (by omega) rv ask λp p1 p2 s'' J'=>?_
    exact⟨_,rfl,wpAny_pure ⟨_,rfl,.ref D,_,J',rfl,q p (by rw[hl];exact p1) p2 D pD.2.1⟩⟩
end
noncomputable def ju:Key->Key->Bool
 | .inl i,.inl j=>decide (i<j)
 | .inl _,.inr _=>true
 | .inr _,.inl _=>false
 | .inr x,.inr y=>decide (x.cps.toList<y.cps.toList)
theorem ad_ (a:Key):ju a a=false:=by
 cases a with
 |inl i=>simp[ju]
 |inr x=>simpa[ju] using List.lt_irrefl x.cps.toList
theorem aea {a b c:Key}(h1:ju a b=true)(h2:ju b c=true):ju a c=true:=by
 cases a <;> cases b <;> cases c <;> simp only[ju,decide_eq_true_eq,Bool.false_eq_true] at * <;> first|omega|exact List.lt_trans h1 h2
theorem aeb {x y:Str}(h:x.cps.toList=y.cps.toList):x=y:=by
 cases x;cases y
 simp only[Str.mk.injEq]
 exact Array.toList_inj.mp h
theorem aec (a b:Key):ju a b=true\/a=b\/ju b a=true:=by
 cases a with
 |inl i=>
  cases b with
  |inl j=>
   simp only[ju,decide_eq_true_eq]
   rcases Int.lt_trichotomy i j with h|h|h
   . exact .inl h
   . exact .inr (.inl (by rw[h]))
   . exact .inr (.inr h)
  |inr y=>exact .inl rfl
 |inr x=>
  cases b with
  |inl j=>exact .inr (.inr rfl)
  |inr y=>
   simp only[ju,decide_eq_true_eq]
   by_cases h1:x.cps.toList<y.cps.toList
   . exact .inl h1
   . by_cases h2:y.cps.toList<x.cps.toList
     . exact .inr (.inr h2)
     . exact .inr (.inl (by rw[aeb (List.le_antisymm (List.not_lt.mp h2) (List.not_lt.mp h1))]))
theorem aed {a b:Key}(h:ju a b=true):a≠b:=λe=>by
 rw[e,ad_] at h;cases h
noncomputable def gB:List Key->List Key->Bool
 |[],[]=>false
 |[],_::_=>true
 |_::_,[]=>false
 |x::xs,y::ys=>if x=y then gB xs ys else ju x y
theorem GP:∀a:List Key,gB a a=false
 |[]=>rfl
 |x::xs=>by
  show(if x=x then gB xs xs else ju x x)=false
  rw[if_pos rfl];exact GP xs
theorem Bd (x y:Key)(xs ys:List Key):gB (x::xs) (y::ys)=if x=y then gB xs ys else ju x y:=rfl
theorem xG:∀(a b c:List Key),gB a b=true->gB b c=true->gB a c=true
 |[],[],_,h,_=>by cases h
 |[],_::_,[],_,h=>by cases h
 |[],_::_,_::_,_,_=>rfl
 |_::_,[],_,h,_=>by cases h
 |_::_,_::_,[],_,h=>by cases h
 |x::xs,y::ys,z::zs,h1,h2=>by
  rw[Bd] at *
  by_cases e1:x=y
  . subst e1
    rw[if_pos rfl] at h1
    by_cases e2:x=z
    . rw[if_pos e2] at h2 ⊢
      exact xG xs ys zs h1 h2
    . rw[if_neg e2] at h2 ⊢
      exact h2
  . rw[if_neg e1] at h1
    by_cases e2:y=z
    . subst e2
      rw[if_neg e1];exact h1
    . rw[if_neg e2] at h2
      have q:=aea h1 h2
      rw[if_neg (aed q)];exact q
theorem Bf:∀a b:List Key,gB a b=true\/a=b\/gB b a=true
 |[],[]=>.inr (.inl rfl)
 |[],_::_=>.inl rfl
 |_::_,[]=>.inr (.inr rfl)
 |x::xs,y::ys=>by
  rw[Bd,Bd]
  by_cases e:x=y
  . subst e
    rw[if_pos rfl,if_pos rfl]
    rcases Bf xs ys with h|h|h
    . exact .inl h
    . exact .inr (.inl (by rw[h]))
    . exact .inr (.inr h)
  . rw[if_neg e,if_neg (λz=>e z.symm)]
    rcases aec x y with h|h|h
    . exact .inl h
    . exact absurd h e
    . exact .inr (.inr h)
@[reducible] noncomputable def Bg:KeyOrd where
  α:=List Key
  blt:=gB
  irrefl:=GP
  trans:=xG
  negTrans a b c h:=by
   rcases Bf a b with q|q|q
   . exact .inl q
   . exact .inr (by rw[<-q];exact h)
   . exact .inr (xG b a c q h)
  total a b h1 h2:=by
   rcases Bf a b with q|q|q
   . rw[h1] at q;cases q
   . exact q
   . rw[h2] at q;cases q
noncomputable def xH (a b:List Key):Prop:=gB b a=false
section
variable {X:Cx}{pins:List (Addr × Obj)}{σ:St}{H:Hp}{s:Shared}
end
section
variable {X:Cx}
end
section
variable {X:Cx}
end
end L2
namespace HT
open PySem PyProof.Rows L2
section
open PySem.SeqAt
open PySem.AutoSeq1 (wpAny_loadPart')
open PySem.MeetsSeq PySem.MeetsSeq2 PySem.MeetsSeq3
end
section
variable {prog:Program}{w:World}{A:Around}{E:Value->Shared->Prop}{s:Shared}
end
end HT
namespace L2
open PySem PySem.Spec PyProof.Rows
section
variable {X:Cx}
end
inductive dM (K:W.Frag) (H:Hp):Nat->V->V->Bool->Prop
 |ref {n:Nat} (a:Addr):dM K H n (.ref a) (.ref a) true
 |int {n:Nat} (a b:Int):dM K H n (.int a) (.int b) (decide (a=b))
 |str {n:Nat} (a b:Str):dM K H n (.str a) (.str b) (decide (a=b))
 |is {n:Nat} (a:Int) (b:Str):dM K H n (.int a) (.str b) false
 |si {n:Nat} (a:Str) (b:Int):dM K H n (.str a) (.int b) false
 |lst {n:Nat} {a b:Addr} {xs ys:List V} {e:Nat->Bool} (ne:a≠b) (ha:aL K H a xs) (hb:aL K H b ys) (hl:xs.length=ys.length) (he:∀(j:Nat) (x y:V),xs[j]? =some x->ys[j]? =some y->dM K H n x y (e j)):
   dM K H (n+1) (.ref a) (.ref b) ((List.range xs.length).all e)
 |tup {n:Nat} {a b:Addr} {xs ys:List V} {e:Nat->Bool} (ne:a≠b) (ha:aM K H a xs) (hb:aM K H b ys) (he:∀(j:Nat) (x y:V),xs[j]? =some x->ys[j]? =some y->dM K H n x y (e j)):
   dM K H (n+1) (.ref a) (.ref b) ((List.range (min xs.length ys.length)).all e && xs.length == ys.length)
section
variable {X:Cx}{pins:List (Addr × Obj)}{σ:St}{H:Hp}{s:Shared}
theorem Vals.at:∀{xs:List V}{us:List Value},Vals xs us->∀(j:Nat) (h:j<us.length),∃x,xs[j]? =some x/\RelV x us[j]
 |_,_,.nil,j,h=>absurd h (by simp)
 |_,_,.cons a r,0,h=>⟨_,rfl,a⟩
 |_,_,.cons a r,j+1,h=>by
  obtain⟨x,h1,h2⟩:=Vals.at r j (by simpa using h)
  exact⟨x,by simpa using h1,h2⟩
theorem dM.Bh (I:Inv X pins σ H s){n:Nat}{x y:V}{b:Bool}(h:dM X.K H n x y b):∀(A:Around) (u v:Value),RelV x u->RelV y v->A.units+n<cLine->SeqAt.EqAt A s u v b:=by
 induction h with
 |ref a=>
  intro A u v ru rv hu
  cases ru
  cases rv
  exact SeqAt.EqAt.same _
 |int a b=>
  intro A u v ru rv hu
  obtain⟨t,rfl⟩:=ru
  obtain⟨t',rfl⟩:=rv
  exact SeqAt.EqAt.int_int a t b t'
 |str a b=>
  intro A u v ru rv hu
  obtain⟨t,rfl⟩:=ru
  obtain⟨t',rfl⟩:=rv
  have e:decide (a=b)=(a == b):=by
   by_cases z:a=b
   . rw[decide_eq_true z,z];simp
   . rw[decide_eq_false z];exact(beq_eq_false_iff_ne.mpr z).symm
  rw[e]
  exact SeqAt.EqAt.str_str a t b t'
 |is a b=>
  intro A u v ru rv hu
  obtain⟨t,rfl⟩:=ru
  obtain⟨t',rfl⟩:=rv
  exact SeqAt.EqAt.int_str a t b t'
 |si a b=>
  intro A u v ru rv hu
  obtain⟨t,rfl⟩:=ru
  obtain⟨t',rfl⟩:=rv
  exact SeqAt.EqAt.str_int a t b t'
 |@lst n a b xs ys e ne ha hb hl he ih=>
  intro A u v ru rv hu
  cases ru
  cases rv
  obtain⟨its,r1,p1,_⟩:=I.list ha
  obtain⟨its2,r2,p2,_⟩:=I.list hb
  have l1:=r1.length
  have l2:=r2.length
  refine .of_refs ne ?_
  have q:xs.length=its.toArray.size:=by rw[List.size_toArray];exact l1
  rw[q]
  refine SeqAt.RcAt.lists p1.isList p2.isList (by rw[List.size_toArray,List.size_toArray];omega) (by omega) λj h1 h2=>?_
  obtain⟨x',e1,q1⟩:=Vals.at r1 j (by simpa using h1)
  obtain⟨y',e2,q2⟩:=Vals.at r2 j (by simpa using h2)
  refine ih j x' y' e1 e2 _ _ _ (by simpa using q1) (by simpa using q2) ?_
  show A.units+1+n<cLine
  omega
 |@tup n a b xs ys e ne ha hb he ih=>
  intro A u v ru rv hu
  cases ru
  cases rv
  obtain⟨its,r1,p1,_⟩:=I.tuple ha
  obtain⟨its2,r2,p2,_⟩:=I.tuple hb
  have l1:=r1.length
  have l2:=r2.length
  refine .of_refs ne ?_
  have q:xs.length=its.toArray.size:=by rw[List.size_toArray];exact l1
  have q':ys.length=its2.toArray.size:=by rw[List.size_toArray];exact l2
  rw[q,q']
  refine SeqAt.RcAt.tuples p1 p2 (by omega) λj h1 h2=>?_
  obtain⟨x',e1,q1⟩:=Vals.at r1 j (by simpa using h1)
  obtain⟨y',e2,q2⟩:=Vals.at r2 j (by simpa using h2)
  refine ih j x' y' e1 e2 _ _ _ (by simpa using q1) (by simpa using q2) ?_
  show A.units+1+n<cLine
  omega
noncomputable def Bj (K:W.Frag) (H:Hp) (n:Nat) (xs ys:List V) (e:Nat->Bool):Prop:=∀(j:Nat) (x y:V),xs[j]? =some x->ys[j]? =some y->dM K H n x y (e j)
noncomputable def GQ (K:W.Frag) (n:Nat):R2:=λx y H Q=>∃a b xs ys e,x=.ref a/\y=.ref b/\Bj K H n xs ys e/\
 ((aL K H a xs/\aL K H b ys/\((xs.length=ys.length/\Q (.bl ((List.range xs.length).all e)) H)\/(xs.length≠ys.length/\Q (.bl false) H)))\/
  (aM K H a xs/\aM K H b ys/\Q (.bl ((List.range (min xs.length ys.length)).all e && xs.length == ys.length)) H))
theorem Ut {n:Nat}(hu:X.A.units+1+n<cLine):dJ X (compareOp .Eq) (GQ X.K n):=by
 intro pins s σ H x y v u Q I rx ry h
 obtain⟨a,b,xs,ys,e,rfl,rfl,hd,h⟩:=h
 cases rx
 cases ry
 rcases h with⟨ha,hb,h⟩|⟨ha,hb,q⟩
 . obtain⟨its,r1,p1,_⟩:=I.list ha
   obtain⟨its2,r2,p2,_⟩:=I.list hb
   have l1:=r1.length
   have l2:=r2.length
   rcases h with⟨hl,q⟩|⟨hl,q⟩
   . have z:xs.length=its.toArray.size:=by rw[List.size_toArray];exact l1
     rw[z] at q
     refine SeqAt.eq_listAt (e:=e) p1.isList p2.isList (by rw[List.size_toArray,List.size_toArray];omega) (by omega) (λj h1 h2=>?_) ⟨.bl _,H,I,rfl,q⟩
     obtain⟨x',e1,q1⟩:=Vals.at r1 j (by simpa using h1)
     obtain⟨y',e2,q2⟩:=Vals.at r2 j (by simpa using h2)
     refine(hd j x' y' e1 e2).Bh I _ _ _ (by simpa using q1) (by simpa using q2) ?_
     show X.A.units+1+n<cLine
     omega
   . refine SeqAt.eq_list_lengthsAt p1.isList p2.isList ?_ (by omega) ⟨.bl false,H,I,rfl,q⟩
     rw[List.size_toArray,List.size_toArray]
     simp
     omega
 . obtain⟨its,r1,p1,_⟩:=I.tuple ha
   obtain⟨its2,r2,p2,_⟩:=I.tuple hb
   have l1:=r1.length
   have l2:=r2.length
   have z:xs.length=its.toArray.size:=by rw[List.size_toArray];exact l1
   have z':ys.length=its2.toArray.size:=by rw[List.size_toArray];exact l2
   rw[z,z'] at q
   refine SeqAt.eq_tupleAt (e:=e) p1 p2 (by omega) (λj h1 h2=>?_) ⟨.bl _,H,I,rfl,q⟩
   obtain⟨x',e1,q1⟩:=Vals.at r1 j (by simpa using h1)
   obtain⟨y',e2,q2⟩:=Vals.at r2 j (by simpa using h2)
   refine(hd j x' y' e1 e2).Bh I _ _ _ (by simpa using q1) (by simpa using q2) ?_
   show X.A.units+1+n<cLine
   omega
noncomputable def Uu (K:W.Frag) (n:Nat):R2:=λx y H Q=>∃a b xs ys e,x=.ref a/\y=.ref b/\Bj K H n xs ys e/\
 ((aL K H a xs/\aL K H b ys/\((xs.length=ys.length/\Q (.bl (!(List.range xs.length).all e)) H)\/(xs.length≠ys.length/\Q (.bl true) H)))\/
  (aM K H a xs/\aM K H b ys/\Q (.bl (!((List.range (min xs.length ys.length)).all e && xs.length == ys.length))) H))
theorem GR {n:Nat}(hu:X.A.units+1+n<cLine):dJ X (compareOp .NotEq) (Uu X.K n):=by
 intro pins s σ H x y v u Q I rx ry h
 obtain⟨a,b,xs,ys,e,rfl,rfl,hd,h⟩:=h
 cases rx
 cases ry
 rcases h with⟨ha,hb,h⟩|⟨ha,hb,q⟩
 . obtain⟨its,r1,p1,_⟩:=I.list ha
   obtain⟨its2,r2,p2,_⟩:=I.list hb
   have l1:=r1.length
   have l2:=r2.length
   rcases h with⟨hl,q⟩|⟨hl,q⟩
   . have z:xs.length=its.toArray.size:=by rw[List.size_toArray];exact l1
     rw[z] at q
     refine(SeqAt.RcNeAt.lists (e:=e) p1.isList p2.isList (by rw[List.size_toArray,List.size_toArray];omega) (by omega) (λj h1 h2=>?_)) X.prog X.w _ _ ⟨.bl _,H,I,rfl,q⟩
     obtain⟨x',e1,q1⟩:=Vals.at r1 j (by simpa using h1)
     obtain⟨y',e2,q2⟩:=Vals.at r2 j (by simpa using h2)
     refine(hd j x' y' e1 e2).Bh I _ _ _ (by simpa using q1) (by simpa using q2) ?_
     show X.A.units+1+n<cLine
     omega
   . refine(SeqAt.RcNeAt.lists_lengths p1.isList p2.isList ?_ (by omega)) X.prog X.w _ _ ⟨.bl true,H,I,rfl,q⟩
     rw[List.size_toArray,List.size_toArray]
     simp
     omega
 . obtain⟨its,r1,p1,_⟩:=I.tuple ha
   obtain⟨its2,r2,p2,_⟩:=I.tuple hb
   have l1:=r1.length
   have l2:=r2.length
   have z:xs.length=its.toArray.size:=by rw[List.size_toArray];exact l1
   have z':ys.length=its2.toArray.size:=by rw[List.size_toArray];exact l2
   rw[z,z'] at q
   refine(SeqAt.RcNeAt.tuples (e:=e) p1 p2 (by omega) (λj h1 h2=>?_)) X.prog X.w _ _ ⟨.bl _,H,I,rfl,q⟩
   obtain⟨x',e1,q1⟩:=Vals.at r1 j (by simpa using h1)
   obtain⟨y',e2,q2⟩:=Vals.at r2 j (by simpa using h2)
   refine(hd j x' y' e1 e2).Bh I _ _ _ (by simpa using q1) (by simpa using q2) ?_
   show X.A.units+1+n<cLine
   omega
end
noncomputable def aee (e:Addr) (l:List Env) (h h':Heap):Prop:=
 (∀b o,b ∉ frs l->b≠e->h.get? b=some o->h'.get? b=some o)/\∀b o,b≠e->h.get? b=some o->∃sl,h'.get? b=some { o with slots:=sl }
theorem pY {f:Array Value->Array Value}{o:Obj}{vs:Array Value}(h:o.data=.fields vs):Obj.mapFields f o={ o with data:=.fields (f vs) }:=by
 obtain⟨c,d,da,sl⟩:=o
 have h:da=.fields vs:=h
 subst h
 rfl
section
variable {M:Model}{A:Around}{E:Value->Shared->Prop}{s:Shared}
theorem uO {base:Heap}{env:Env}{outer:List Env}{L e:Addr}{oe:Obj}{vs:Array Value}{head:Value}{had:Bool}{Q:Unit->Shared->Prop}
 (hfr:A.frames=some (env::outer)) (hl:s.heap.FunFrames base (env::outer)) (hf:env.frame=some L) (he:s.heap.get? e=some oe) (hd:oe.data=.fields vs) (hsz:1<vs.size)
 (h:∀(h':Heap) (T:Addr),s.heap.objs.size<=T->aee e (env::outer) s.heap h'->h'.get? e=some { oe with data:=.fields (vs.setIfInBounds 1 (.ref T)) }->(∃oT ts,h'.get? T=some oT/\oT.data=.fields ts/\ts[3]? =some (rawInt L))->Q () { s with heap:=h' }):
 wpAny M A (do let a <-frameOf env;let pl <-entryPlaceOf L had;let b <-EntryCells.newEntry head a .none (rawInt L) .none pl;setField (.ref e) 1 b) Q E s:=by
 have nfr:e ∉ (env::outer).filterMap (·.frame):=λz=>by
  obtain⟨_,o,ho,hn⟩:=hl.mem z
  rw[he] at ho
  cases ho
  exact hn vs hd
 refine wpAny_bind (wpAny_frameOf_fun hfr hl hf λh1 x1=>?_)
 refine wpAny_bind (wpAny_entryPlaceOf λpl Uv=>?_)
 unfold EntryCells.newEntry newFields
 refine wpAny_bind (wpAny_newObj_type ?_ (Uv.sizeOk5 _ _ _ _ _))
 have e1:h1.get? e=some oe:=(x1.2.1 e nfr).trans he
 generalize hob:({ cls:=.type "traceback",dict:=none,data:=.fields ([head,.ref L,.none,rawInt L,.none]++(if pl.isEmpty then List.replicate 6 Value.none else pl)).toArray }:Obj)=ob
 have e2:(h1.push ob).get? e=some oe:=Heap.get?_push_of_some ob e1
 have nTe:h1.objs.size≠e:=Nat.ne_of_gt (Heap.lt_size e1)
 have aeh:({ oe with data:=.fields (vs.setIfInBounds 1 (.ref h1.objs.size)) }:Obj).isFreed=false:=Obj.isFreed_of_fields rfl
 have em:Obj.mapFields (·.setIfInBounds 1 (Value.ref h1.objs.size)) oe={ oe with data:=.fields (vs.setIfInBounds 1 (.ref h1.objs.size)) }:=pY hd
 refine wpAny_setField e2 hd hsz (h _ h1.objs.size (Nat.le_of_eq x1.1.symm) ⟨λb o hb hbe ho=>?_,λb o hbe ho=>?_⟩ ?_ ?_)
 . rw[Heap.get?_update_other _ _ (Ne.symm hbe)]
   exact Heap.get?_push_of_some ob ((x1.2.1 b hb).trans ho)
 . obtain⟨sl,hs⟩:=x1.2.2 b o ho
   refine⟨sl,?_⟩
   rw[Heap.get?_update_other _ _ (Ne.symm hbe)]
   exact Heap.get?_push_of_some ob hs
 . have:=Heap.get?_update_self (Obj.mapFields (·.setIfInBounds 1 (Value.ref h1.objs.size))) e2 (by rw[em];exact aeh)
   rw[em] at this
   exact this
 . refine⟨ob,_,?_,by rw[<-hob],?_⟩
   . rw[Heap.get?_update_other _ _ (Ne.symm nTe)]
     exact Heap.get?_push_size h1 (by rw[<-hob];rfl)
   . first|(simp;done)|(rcases Uv with rfl|⟨_,_,_,_,_,_,_,rfl⟩ <;> simp)
structure Tr (h:Heap) (e T:Addr) (cls fl:Value):Prop where
 ex:∃oe vs,h.get? e=some oe/\oe.cls=cls/\oe.dict=none/\oe.data=.fields vs/\vs[1]? =some (.ref T)
 tb:∃oT ts,h.get? T=some oT/\oT.data=.fields ts/\ts[3]? =some fl
 ne:T≠e
theorem Uw {e T:Addr}{cls fl:Value}{Q:Unit->Shared->Prop}(t:Tr s.heap e T cls fl)(h:∀h',Tr h' e T cls .none->(∀b o,b≠T->s.heap.get? b=some o->h'.get? b=some o)->(∃o',h'.get? T=some o')->Q () { s with heap:=h' }):wpAny M A (setFlight (.ref e) none) Q E s:=by
 obtain⟨⟨oe,vs,he,hc,hdi,hd,h1⟩,⟨oT,ts,hT,hdT,h3⟩,ne⟩:=t
 have em:Obj.mapFields (·.setIfInBounds 3 ((none:Option Addr).elim Value.none λf=>rawInt f)) oT={ oT with data:=.fields (ts.setIfInBounds 3 .none) }:=pY hdT
 have hsz:=(Array.getElem?_eq_some_iff.mp h3).1
 unfold setFlight
 refine wpAny_bind (wpAny_field he hd h1 ?_)
 rw[if_pos (show(Value.ref T != Value.none)=true by simp)]
 have self:=Heap.get?_update_self (Obj.mapFields (·.setIfInBounds 3 ((none:Option Addr).elim Value.none λf=>rawInt f))) hT (by rw[em];exact Obj.isFreed_of_fields rfl)
 rw[em] at self
 have oth:∀b o,b≠T->s.heap.get? b=some o->(s.heap.update T (Obj.mapFields (·.setIfInBounds 3 ((none:Option Addr).elim Value.none λf=>rawInt f)))).get? b=some o:=λb o hb ho=>by
  rw[Heap.get?_update_other _ _ (Ne.symm hb)];exact ho
 exact wpAny_setField hT hdT hsz (h _ ⟨⟨oe,vs,oth e oe (Ne.symm ne) he,hc,hdi,hd,h1⟩,⟨_,_,self,rfl,by simp[hsz]⟩,ne⟩ oth ⟨_,self⟩)
theorem aei {base:Heap}{env:Env}{outer:List Env}{L e T:Addr}{cls:Value}{Q:Unit->Shared->Prop}(hfr:A.frames=some (env::outer))(hl:s.heap.FunFrames base (env::outer))(hf:env.frame=some L)(t:Tr s.heap e T cls .none)
 (h:∀(h':Heap) (T':Addr),s.heap.objs.size<=T'->(∀b o,b ∉ frs (env::outer)->b≠e->b≠T->s.heap.get? b=some o->h'.get? b=some o)->(∀b o,b≠e->b≠T->s.heap.get? b=some o->∃sl,h'.get? b=some { o with slots:=sl })->(∃o,h'.get? T=some o)->Tr h' e T' cls (rawInt L)->Q () { s with heap:=h' }):
 wpAny M A (noteFrame (.ref e) env) Q E s:=by
 obtain⟨⟨oe,vs,he,hc,hdi,hd,h1⟩,⟨oT,ts,hT,hdT,h3⟩,ne⟩:=t
 have hsz:=(Array.getElem?_eq_some_iff.mp h3).1
 have em:Obj.mapFields (·.setIfInBounds 3 Value.none) oT={ oT with data:=.fields (ts.setIfInBounds 3 .none) }:=pY hdT
 unfold noteFrame
 simp only[hf]
 refine wpAny_bind (wpAny_field he hd h1 ?_)
 rw[if_pos (show(Value.ref T != Value.none)=true by simp)]
 refine wpAny_bind (wpAny_field hT hdT h3 ?_)
 rw[if_neg (show ¬(Value.none == rawInt L)=true by simp[rawInt])]
 refine wpAny_bind (wpAny_setField hT hdT hsz ?_)
 have self:=Heap.get?_update_self (Obj.mapFields (·.setIfInBounds 3 Value.none)) hT (by rw[em];exact Obj.isFreed_of_fields rfl)
 rw[em] at self
 have oth:∀b o,b≠T->s.heap.get? b=some o->(s.heap.update T (Obj.mapFields (·.setIfInBounds 3 Value.none))).get? b=some o:=λb o hb ho=>by
  rw[Heap.get?_update_other _ _ (Ne.symm hb)];exact ho
 have nT:∀b o,s.heap.get? b=some o->(∀vs,o.data≠ .fields vs)->b≠T:=λb o ho hn z=>by
  rw[z,hT] at ho
  cases ho
  exact hn ts hdT
 have hsize:(s.heap.update T (Obj.mapFields (·.setIfInBounds 3 Value.none))).objs.size=s.heap.objs.size:=Heap.size_update _ _ _
 refine uO (s:={ s with heap:=s.heap.update T (Obj.mapFields (·.setIfInBounds 3 Value.none)) }) hfr (hl.of_keeps λb o ho hn=>⟨o,oth b o (nT b o ho hn) ho,rfl⟩) hf (oth e oe (Ne.symm ne) he) hd (Array.getElem?_eq_some_iff.mp h1).1 λh' T' hT' hP he' htb=>?_
 have hle:s.heap.objs.size<=T':=by rw[<-hsize];exact hT'
 refine h h' T' hle (λb o hb hbe hbT ho=>hP.1 b o hb hbe (oth b o hbT ho)) (λb o hbe hbT ho=>hP.2 b o hbe (oth b o hbT ho)) ?_ ⟨⟨_,_,he',hc,hdi,rfl,by simp[(Array.getElem?_eq_some_iff.mp h1).1]⟩,htb,?_⟩
 . obtain⟨sl,hs⟩:=hP.2 T _ ne self
   exact⟨_,hs⟩
 . have h1:e<s.heap.objs.size:=Heap.lt_size he
   exact λz=>Nat.lt_irrefl e (Nat.lt_of_lt_of_le h1 (by rw[<-z];exact hle))
end
theorem eG.ex {P:Program}{w:World}{H:Hp}{h:Heap}{a:Addr}{o:HO}(x:eG P w H h a o):∃ob,h.get? a=some ob:=by
 cases o with
 |lst xs=>obtain⟨_,_,_,_,e⟩:=x;exact⟨_,e⟩
 |tup xs=>obtain⟨_,_,_,ob,e,_⟩:=x;exact⟨ob,e⟩
 |dK kvs=>obtain⟨_,_,_,_,ob,_,_,e,_⟩:=x;exact⟨ob,e⟩
 |dT kvs=>obtain⟨_,_,_,_,ob,_,_,e,_⟩:=x;exact⟨ob,e⟩
 |set S n=>obtain⟨ob,_,_,_,e,_⟩:=x;exact⟨ob,e⟩
 |ins C dx fs=>obtain⟨_,_,_,e,_⟩:=x;exact⟨_,e⟩
 |own y=>exact x
 |xd fs=>obtain⟨_,⟨ob,_,_,e,_⟩,_⟩:=x;exact⟨ob,e⟩
 |rng lo hi=>obtain⟨_,_,_,e⟩:=x;exact⟨_,e⟩
 |kY ob u=>obtain⟨e,_⟩:=x;exact⟨_,e⟩
 |eF ps=>exact⟨_,show h.get? a=some _ from x⟩
 |met f y=>exact⟨_,show h.get? a=some _ from x⟩
 |ext φ=>obtain⟨_,⟨ob,e⟩,_⟩:=x;exact⟨ob,e⟩
section
variable {X:Cx}{pins:List (Addr × Obj)}{σ:St}{H:Hp}{s:Shared}
theorem Heap.rT {h:Heap}{a:Addr}(e:h.objs.size<=a):h.get? a=none:=by
 cases q:h.get? a with
 |none=>rfl
 |some o=>exact absurd (Nat.lt_of_lt_of_le (Heap.lt_size q) e) (Nat.lt_irrefl _)
theorem Inv.iG (I:Inv X pins σ H s)(hex:X.ex=[]){a:Addr}(e:s.heap.get? a=none):X.s₀.heap.get? a=none:=by
 cases q:X.s₀.heap.get? a with
 |none=>rfl
 |some o=>
  obtain⟨o',e'⟩:=I.base.there a o q (by rw[hex];simp)
  rw[e] at e';cases e'
theorem Inv.uP (I:Inv X pins σ H s)(hex:X.ex=[]){a T:Addr}{h':Heap}(ha:X.s₀.heap.get? a=none)(hT:X.s₀.heap.get? T=none)(na:H a=none)(nT:H T=none)
 (k1:∀b o,b ∉ frs X.stack->b≠a->b≠T->s.heap.get? b=some o->h'.get? b=some o) (k2:∀b o,b≠a->b≠T->s.heap.get? b=some o->∃sl,h'.get? b=some { o with slots:=sl }):
 Un (frs X.outer) [] X.H₀ H X.s₀.heap h'/\cQ X.prog X.w H h':=by
 have B:=I.base
 rw[hex] at B
 have old:∀b o,X.s₀.heap.get? b=some o->b≠a/\b≠T/\b≠X.env.locals:=λb o e=>by
  have hb:=Heap.lt_size e
  exact⟨(λz=>by rw[z,ha] at e;cases e),(λz=>by rw[z,hT] at e;cases e),λz=>Nat.lt_irrefl _ (Nat.lt_of_lt_of_le (z ▸ hb) I.ok.above)⟩
 refine⟨⟨λb o e n hf _=>?_,λb o e n hf _=>?_,λb o e n _=>B.free b o e n (by simp),λb o e _=>?_,B.tups,B.iT,B.iU⟩,λb o e=>(I.hok b o e).stay (λc u hc r=>?_) (λ_ r=>r) λ_ _ r=>r⟩
 . obtain⟨o1,o2,o3⟩:=old b o e
   refine k1 b o (λz=>?_) o1 o2 (B.keep b o e n hf (by simp))
   rcases List.mem_cons.mp (I.pG b z) with z|z
   . exact o3 z
   . exact hf z
 . obtain⟨o1,o2,o3⟩:=old b o e
   obtain⟨sl,e1⟩:=B.slot b o e n hf (by simp)
   obtain⟨sl',e2⟩:=k2 b _ o1 o2 e1
   exact⟨sl',e2⟩
 . obtain⟨o1,o2,o3⟩:=old b o e
   obtain⟨o',e1⟩:=B.there b o e (by simp)
   obtain⟨sl,e2⟩:=k2 b o' o1 o2 e1
   exact⟨_,e2⟩
 . have hc':∃v,H c=some v:=by
    rcases hc with z|z
    . exact⟨o,by rw[z];exact e⟩
    . exact⟨_,z⟩
   obtain⟨v,hv⟩:=hc'
   refine k1 c u (λz=>?_) (λz=>?_) (λz=>?_) r
   . rw[I.wA c z] at hv;cases hv
   . rw[z,na] at hv;cases hv
   . rw[z,nT] at hv;cases hv
theorem Inv.leave (I:Inv X pins σ H s)(hex:X.ex=[])(hst:X.stack=X.env::X.outer)(hfm:X.env.frame=some X.env.locals){a T:Addr}{cls:Value}{Q:Unit->Shared->Prop}{E:Value->Shared->Prop}{M:Model}(t:Tr s.heap a T cls .none)
 (ha:X.s₀.heap.get? a=none) (hT:X.s₀.heap.get? T=none) (na:H a=none) (nT:H T=none)
 (q:∀(h':Heap) (T':Addr),Tr h' a T' cls .none->X.s₀.heap.get? T'=none->H T'=none->Un (frs X.outer) [] X.H₀ H X.s₀.heap h'->cQ X.prog X.w H h'->Q () { s with heap:=h' }):
 wpAny M X.A (leaving X.env (.ref a)) Q E s:=by
 have hfr:X.A.frames=some (X.env::X.outer):=by rw[<-hst];exact I.ok.frames
 have hl:s.heap.FunFrames X.base (X.env::X.outer):=by rw[<-hst];exact I.stack
 unfold leaving
 refine wpAny_bind (aei hfr hl hfm t λh1 T1 hT1 k1 k2 hTT t1=>?_)
 refine Uw (s:={ s with heap:=h1 }) t1 λh2 t2 k3 hT2=>?_
 have oK:H T1=none:=I.hok.fresh hT1
 have dX:∀b o,s.heap.get? b=some o->b≠T1:=λb o e z=>by
  have h3:=Heap.lt_size e
  rw[z] at h3
  exact Nat.lt_irrefl _ (Nat.lt_of_lt_of_le h3 hT1)
 obtain⟨u,ok⟩:=I.uP hex (h':=h2) ha hT na nT (λb o hb h1' h2' e=>k3 b o (dX b o e) (k1 b o (by rw[<-hst];exact hb) h1' h2' e)) (λb o h1' h2' e=>by
  obtain⟨sl,e1⟩:=k2 b o h1' h2' e
  exact⟨sl,k3 b _ (dX b o e) e1⟩)
 exact q h2 T1 t2 (I.iG hex (Heap.rT hT1)) oK u ok
end
noncomputable def jw (P:Program) (w:World):iW:=λouter H s E e s'=>∃(a T C:Addr) (H':Hp),e=.ref a/\Tr s'.heap a T (.ref C) .none/\s.heap.get? a=none/\s.heap.get? T=none/\H' a=none/\H' T=none/\s'.os=s.os/\AllBare s'.gens/\Un (frs outer) [] H H' s.heap s'.heap/\cQ P w H' s'.heap/\E (.ref C) none H'
theorem GX {P:Program}{w:World}{K:W.Frag}{mg:Str->Option Value}{base:Heap}{N:List Str}{qual:Str}{scope:Scope}{f:Addr}{cd:Value}{A:Around}{outer:List Env}{s₀:Shared}{H₀:Hp}{E E':XK}(hE:∀C d H,E' C d H->E C d H):
 Passes (jw P w) (fZ (jw P w) P w K mg base N qual scope f cd A outer s₀ H₀ E) E':=λpins σ H s e s' I h=>by
 obtain⟨a,T,C,H',rfl,t,la,lT,na,nT,os,bare,un,hok,hE'⟩:=h
 obtain⟨hh,g,d,tk,os'⟩:=s'
 obtain rfl:os'=s.os:=os
 have I':=I.call (h':=hh) (g':=g) (d':=d) (t':=tk) (ch:=[]) un hok bare (λb z=>absurd z (by simp))
 show wpAny (model P w) _ (leaving _ _) _ _ _
 refine I'.leave rfl rfl rfl t (I.iG rfl la) (I.iG rfl lT) na nT λh' T' t' rW rY un' hok'=>?_
 exact⟨a,T',C,H',rfl,t',I.iG rfl la,rW,na,rY,I'.os,bare,un',hok',hE _ _ _ hE'⟩
section
variable {M:Model}{A:Around}{E:Value->Shared->Prop}{s:Shared}
theorem aej {base:Heap}{env:Env}{outer:List Env}{L e:Addr}{cls:Value}{oe:Obj}{vs:Array Value}{Q:Unit->Shared->Prop}(hfr:A.frames=some (env::outer))(hl:s.heap.FunFrames base (env::outer))(hf:env.frame=some L)
 (he:s.heap.get? e=some oe) (hc:oe.cls=cls) (hdi:oe.dict=none) (hd:oe.data=.fields vs) (h1:vs[1]? =some .none)
 (h:∀(h':Heap) (T':Addr),s.heap.objs.size<=T'->(∀b o,b ∉ frs (env::outer)->b≠e->s.heap.get? b=some o->h'.get? b=some o)->(∀b o,b≠e->s.heap.get? b=some o->∃sl,h'.get? b=some { o with slots:=sl })->Tr h' e T' cls (rawInt L)->Q () { s with heap:=h' }):
 wpAny M A (noteFrame (.ref e) env) Q E s:=by
 have hsz:=(Array.getElem?_eq_some_iff.mp h1).1
 unfold noteFrame
 simp only[hf]
 refine wpAny_bind (wpAny_field he hd h1 ?_)
 rw[if_neg (by decide)]
 refine uO hfr hl hf he hd hsz λh' T' hT' hP he' htb=>?_
 refine h h' T' hT' hP.1 hP.2 ⟨⟨_,_,he',hc,hdi,rfl,by simp[hsz]⟩,htb,λz=>?_⟩
 have h3:=Heap.lt_size he
 rw[<-z] at h3
 exact Nat.lt_irrefl _ (Nat.lt_of_lt_of_le h3 hT')
end
section
variable {X:Cx}{pins:List (Addr × Obj)}{σ:St}{H:Hp}{s:Shared}
theorem Inv.aek (I:Inv X pins σ H s)(hex:X.ex=[])(hst:X.stack=X.env::X.outer)(hfm:X.env.frame=some X.env.locals){a:Addr}{oe:Obj}{vs:Array Value}{cls:Value}{Q:Unit->Shared->Prop}{E:Value->Shared->Prop}{M:Model}
 (he:s.heap.get? a=some oe) (hc:oe.cls=cls) (hdi:oe.dict=none) (hd:oe.data=.fields vs) (h1:vs[1]? =some .none) (ha:X.s₀.heap.get? a=none) (na:H a=none)
 (q:∀(h':Heap) (T':Addr),Tr h' a T' cls .none->X.s₀.heap.get? T'=none->H T'=none->Un (frs X.outer) [] X.H₀ H X.s₀.heap h'->cQ X.prog X.w H h'->Q () { s with heap:=h' }):
 wpAny M X.A (leaving X.env (.ref a)) Q E s:=by
 have hfr:X.A.frames=some (X.env::X.outer):=by rw[<-hst];exact I.ok.frames
 have hl:s.heap.FunFrames X.base (X.env::X.outer):=by rw[<-hst];exact I.stack
 unfold leaving
 refine wpAny_bind (aej hfr hl hfm he hc hdi hd h1 λh1 T1 hT1 k1 k2 t1=>?_)
 refine Uw (s:={ s with heap:=h1 }) t1 λh2 t2 k3 hT2=>?_
 have oK:H T1=none:=I.hok.fresh hT1
 have dX:∀b o,s.heap.get? b=some o->b≠T1:=λb o e z=>by
  have h3:=Heap.lt_size e
  rw[z] at h3
  exact Nat.lt_irrefl _ (Nat.lt_of_lt_of_le h3 hT1)
 obtain⟨u,ok⟩:=I.uP hex (h':=h2) ha ha na na (λb o hb h1' _ e=>k3 b o (dX b o e) (k1 b o (by rw[<-hst];exact hb) h1' e)) (λb o h1' _ e=>by
  obtain⟨sl,e1⟩:=k2 b o h1' e
  exact⟨sl,k3 b _ (dX b o e) e1⟩)
 exact q h2 T1 t2 (I.iG hex (Heap.rT hT1)) oK u ok
end
noncomputable def Ux (X:Cx) (C:Addr) (R:Hp->Prop):Prop:=∀(pins:List (Addr × Obj)) (σ:St) (H:Hp) (s:Shared) (h':Heap) (e:Addr) (vs:List Value),Inv X pins σ H s->Heap.MadeExcOf s.heap h' e (.ref C) vs->R H->X.xe (.ref e) { s with heap:=h' }
noncomputable def Uy (R:Hp->Prop) (t:TA):TS:=λ_ σ H=>t σ H λvs H1=>vs.length<=sizeLine/\R H1
theorem xJ {X:Cx}{x:Str}{C:Addr}{bm:List Value}{B newId initId:String}{e:Expr}{es:List Expr}{np cpos pos:Pos}{t:TA}{R:Hp->Prop}(O:OwnCls x C bm newId X.mg X.base)(FB:ExcBaseFacts B newId initId bm)(hcl:X.calm=true)(hg:Gl X x)(hx:Ux X C R)
 (ha:PA X (e::es) t) (hdb:(x == ("__debug__":Str))=false:=by decide) (hst:starEach (e::es) X.env=(false,eval e X.env)::starEach es X.env:=by rfl) (hpl:(backTo cpos (starEach es X.env)).any (·.1)=false:=by rfl):
 PS X (.Raise (some (.Call (.Name x np) (e::es) [] cpos)) none pos) (Uy R t):=by
 intro pins s σ H D I h
 obtain⟨tl,N,nm,q,bs,hdct,sn,sub,ab,col,dd,k0,k1,k2,k3,k5,mN,hC,hN,hni,T⟩:=O.obj
 refine wpAny_Raise_call_subT (C:=C) (nm:=nm) (q:=q) (N:=N) (bs:=bs) (bm:=tl) (hdct:=hdct) (sn:=sn) (sub:=sub) (ab:=ab) (col:=col) (dd:=dd) (k0:=k0) (k1:=k1) (k2:=k2) (k3:=k3) (k5:=k5) FB (mN:=mN) (T.hasType FB.hasBase) (I.ok.hd hcl) ?_ hni (rH I hg O.bound ⟨rfl,?_⟩ hdb)
 . rw[hst]
   show(false || (backTo cpos (starEach es X.env)).any (·.1))=false
   rw[hpl]
   rfl
 . have h2:=ha cpos pins s σ H _ I h
   rw[hst] at h2 ⊢
   refine Calls.evalArgs_plain (wpAny_mono h2 (λus s2 ⟨vs,H1,I1,r,hl,hR⟩=>?_) λ_ _ y=>y)
   exact⟨rfl,by rw[<-r.length];exact hl,I1.bk _ _ hC,hN.keeps I1.bk,T.keeps I1.bk,λh' a hm=>hx pins σ H1 s2 h' a us I1 hm hR⟩
theorem xK {P:Program}{w:World}{K:W.Frag}{mg:Str->Option Value}{base:Heap}{N:List Str}{qual:Str}{scope:Scope}{f:Addr}{cd:Value}{A:Around}{outer:List Env}{s₀:Shared}{H₀:Hp}{E:XK}{C:Addr}:
 Ux (fZ (jw P w) P w K mg base N qual scope f cd A outer s₀ H₀ E) C (λH=>E (.ref C) none H):=λpins σ H s h' e vs I hm hE=>by
 obtain⟨t,he,_,_⟩:=hm.there
 have I':=I.kept (h':=h') (t':=s.toks) hm.keeps
 have hnew:s.heap.get? e=none:=hm.new
 have na:H e=none:=by
  cases q:H e with
  |none=>rfl
  |some o=>
   obtain⟨o',e'⟩:=(I.hok e o q).ex
   rw[hnew] at e';cases e'
 show wpAny (model P w) _ (leaving _ _) _ _ _
 refine I'.aek rfl rfl rfl he rfl rfl rfl rfl (I.iG rfl hnew) na λh2 T' t' rW rY un' hok'=>?_
 exact⟨e,T',C,H,rfl,t',I.iG rfl hnew,rW,na,rY,I'.os,I'.bare,un',hok',hE⟩
section
variable {X:Cx}{k:Nat}{f:Addr}{fd:FuncData}{ps:List Str}{sp:Sp}{dh:List V}{ds:List Value}{Ek:XK}{x:Str}{p pos:Pos}{e:Expr}{es:List Expr}{t:TA}{te:TE}
end
end L2
namespace L2
open PySem PySem.Spec PyProof.Rows PySem.W
theorem ael {M:Model}{A:Around}{E:Value->Shared->Prop}{K:Frag}{s:Shared}{a C D:Addr}{oe:Obj}{b:Bool}{Q:Bool->Shared->Prop}(X:K.In s.heap)(h1:typeIn K (.ref D)=some (.type "type"))(h2:(clsIn K D).isSome=true)(h3:subIn K (.ref D) (.type "BaseException")=some true)
 (h4:subIn K (.ref C) (.ref D)=some b) (he:s.heap.get? a=some oe) (hc:oe.cls=.ref C) (hq:Q b s):wpAny M A (excMatches (.ref a) (.ref D)) Q E s:=by
 obtain⟨h,g,d,t,os⟩:=s
 have L1:=looks_typeIn (M:=M) X h1
 have L2:Looks M h (isSubtype (.type "type") (.type "tuple")) false:=Looks.of_pure tc_notTuple
 have L3:=looks_subIn (M:=M) X h3
 have L4:=looks_subIn (M:=M) X h4
 have L5:Looks M h (isType (.ref D)) true:=by
  unfold clsIn at h2
  split at h2
  . rename_i c' d' cd' sl' ho
    intro A' Q' E' s' k q
    unfold isType loadHead
    exact wpAny_bind (wpAny_loadPart (k _ _ (X _ _ ho)) (wpAny_pure q))
  . cases h2
 have L6:Looks M h (typeOf (.ref a)) (.ref C):=by
  have z:Looks M h (typeOf (.ref a)) oe.cls:=(Looks.ld (show h.get? a=some oe from he)).andThen .now
  rw[hc] at z
  exact z
 have L7:Looks M h (isInstance (.ref D) (.type "tuple")) false:=L1.andThen L2
 have L8:Looks M h (isExcClass (.ref D)) true:=λA' Q' E' s' k q=>by
  unfold isExcClass
  exact wpAny_bind (L5 A' _ E' s' k (L3 A' _ E' s' k q))
 unfold excMatches
 refine wpAny_bind (L7.at ?_)
 repeat (any_goals (first|assumption|with_reducible refine L8.at ?_|with_reducible refine L6.at ?_|with_reducible refine L4.at ?_|wp_step))
 cases b <;> (repeat (any_goals (first|assumption|wp_step)))
end L2
namespace L2
open PySem PySem.Spec PyProof.Rows
section
variable {X:Cx}{pins:List (Addr × Obj)}{σ:St}{H:Hp}{s:Shared}
theorem Inv.unbind {M:Model}{A:Around}{E:Value->Shared->Prop}{i:Nat}{x:Str}{pos:Pos}{Q:Unit->Shared->Prop}(I:Inv X pins σ H s)(hN:X.N.Nodup)(hi:X.N[i]? =some x)(hk:X.env.kindOf x=some .local)
 (h:∀s',Inv X pins (σ.set i none) H s'->Q () s'):wpAny M A (do bindName X.env x .none;unbindBehindTheSuite X.env x pos) Q E s:=by
 obtain⟨m,hn,hl⟩:=id I.loc
 have hcls:(X.env.scope.kind == .class || (X.env.scope.kind == .module && X.env.locals != X.env.globals))=false:=by rw[I.ok.kind];rfl
 have Aa:i<σ.length:=by rw[I.len];exact(List.getElem?_eq_some_iff.mp hi).1
 have jW:=I.jW
 refine wpAny_nameGoes_keeps hk hn hcls λh' v hn' hs=>?_
 obtain⟨oL,_,_,hoL,_⟩:=id hn
 have tracked:cQ X.prog X.w H h':=λb ob e=>by
  refine(I.hok b ob e).stay (λc w' hc q=>(hs.2 c ?_).trans q) (λ_ q=>q) λ_ _ q=>q
  rintro rfl
  rcases hc with rfl|hc
  . rw[I.free] at e;cases e
  . rw[I.free] at hc;cases hc
 refine h _ ⟨I.ok,I.os,I.bare,⟨λb o e n hb hx=>?_,λb o e n hb hx=>?_,I.base.free,λb o e hx=>?_,I.base.tups,I.base.iT,I.base.iU⟩,⟨_,hn',λj y v' e1 e2 e3=>?_⟩,λy c e=>?_,I.free,I.gR,λp hp=>?_,tracked,by simpa using I.len⟩
 . exact(hs.2 b (Nat.ne_of_lt (Nat.lt_of_lt_of_le (Heap.lt_size e) I.ok.above))).trans (I.base.keep b o e n hb hx)
 . obtain⟨sl,e1⟩:=I.base.slot b o e n hb hx
   exact⟨sl,(hs.2 b (Nat.ne_of_lt (Nat.lt_of_lt_of_le (Heap.lt_size e) I.ok.above))).trans e1⟩
 . obtain⟨o',e1⟩:=I.base.there b o e hx
   exact⟨o',(hs.2 b (Nat.ne_of_lt (Nat.lt_of_lt_of_le (Heap.lt_size e) I.ok.above))).trans e1⟩
 . by_cases hj:j=i
   . subst hj
     rw[List.getElem?_set_self Aa] at e2
     cases e2
   . rw[List.getElem?_set_ne (Ne.symm hj)] at e2
     obtain⟨u',r',q⟩:=hl j y v' e1 e2 e3
     refine⟨u',r',?_⟩
     rcases q with⟨k,e⟩|⟨k,c,e,z⟩
     . refine .inl ⟨k,?_⟩
       have:y≠x:=λe=>hj (Fj hN e1 (e ▸ hi))
       simp[this,e]
     . exact .inr ⟨k,c,e,z.sameBut hs (jW y c e)⟩
 . obtain⟨w',z⟩:=I.cell y c e
   exact⟨w',z.sameBut hs (jW y c e)⟩
 . obtain⟨e,n,ne,nf,d⟩:=I.pin p hp
   exact⟨(hs.2 p.1 ne).trans e,n,ne,nf,d⟩
noncomputable abbrev Cx.marked (X:Cx) (a:Addr):Cx:={ X with A:=X.A.mark (some (.ref a)),calm:=false,xe:=λ_ _=>False }
theorem Inv.marked (I:Inv X pins σ H s)(a:Addr):Inv (X.marked a) pins σ H s:=
 ⟨⟨I.ok.mod,I.ok.kind,I.ok.glob,I.ok.blt,I.ok.above,I.ok.inj,I.ok.has,I.ok.cab,(λz=>by cases z),I.ok.frames,I.ok.stk,I.ok.Fi,I.ok.bs,I.ok.jU,I.ok.uo,I.ok.wz,I.ok.jV,I.ok.pF⟩,I.os,I.bare,I.base,I.loc,I.cell,I.free,I.gR,I.pin,I.hok,I.len⟩
theorem Inv.unmarked {a:Addr}(I:Inv (X.marked a) pins σ H s)(ok:X.Ok):Inv X pins σ H s:=⟨ok,I.os,I.bare,I.base,I.loc,I.cell,I.free,I.gR,I.pin,I.hok,I.len⟩
end
noncomputable def Ends.un (D:Ends) (i:Nat):Ends:={ nx:=λσ H=>D.nx (σ.set i none) H,rt:=D.rt,bk:=λσ H=>D.bk (σ.set i none) H,ct:=λσ H=>D.ct (σ.set i none) H }
end L2
namespace L2
open PySem PySem.Spec PySem.Calls PyProof.Rows PySem.W PySem.Builtin PySem.Builtin.ObjectAttr PySem.Builtin.Getset_descriptor
structure j4 (K:Frag) (C:Addr):Prop where
 ga:findIn K (.ref C) "__getattribute__"=some (some (.builtin "BaseException.__getattribute__"))
 gt:findIn K (.ref C) "__getattr__"=some none
 cl:findIn K (.ref C) "__class__"=some (some (.builtin "object.__class__"))
 ob:mroIn K C (.type "object")=some true
 bx:mroIn K C (.type "BaseException")=some true
 is:(clsIn K C).isSome=true
section
variable {prog:Program}{w:World}{A:Around}{E:Value->Shared->Prop}{K:Frag}{h:Heap}{g:Array GenState}{d:Drawn}{t:Nat}{os:OsState}{a C:Addr}{o:Obj}
theorem aem {R:Result->Shared->Prop}{tp:Value}(X:K.In h)(Z:j4 K C)(hx:h.get? a=some o)(hc:o.cls=.ref C)(hq:R (.ok (.ret (.ref C))) ⟨h,g,d,t,os⟩):
 codeAny (model prog w) A (.call (.builtin "getset_descriptor.__get__") ⟨[.builtin "object.__class__",.ref a,tp],[]⟩) R ⟨h,g,d,t,os⟩:=by
 have L0:Looks (model prog w) h (typeOf (.ref a)) (.ref C):=by
  have z:Looks (model prog w) h (typeOf (.ref a)) o.cls:=(Looks.ld hx).andThen .now
  rw[hc] at z
  exact z
 have L1:=looks_mroIn (M:=model prog w) X Z.ob
 refine codeAny_call_builtin KF.slot_gs.plain KF.entry_gs (KF.slot_gs.check _ _ _ _ _ _ _ _ KF.type_class (KF.args_gs _ _ _) ?_)
 unfold Builtin.«getset_descriptor.__get__» descrGet
 rw[dga_obj]
 refine wpAny_bind (wpAny_pure ?_)
 unfold descrGetter descrCheckInstance descrNameAndClass isInstance
 simp only[KF.owner_class]
 repeat lk
 refine⟨Code.quiet_builtin _ (by decide +kernel),codeAny_builtin KF.entry_class ?_⟩
 unfold Builtin.«object.__class__» shownTypeOf
 repeat lk
 exact hq
theorem aen {tk:Tok}{Q:Fin->Shared->Prop}(X:K.In h)(Z:j4 K C)(hx:h.get? a=some o)(hc:o.cls=.ref C)(hq:Q (.done (.ret (.ref C))) ⟨h,g,d,t,os⟩):
 wpAny (model prog w) A (Builtin.«object.__getattribute__» ⟨[.ref a,.str "__class__" tk],[]⟩) Q E ⟨h,g,d,t,os⟩:=by
 have hT5:(⟨h,g,d,t,os⟩:Shared).TypeIs (.builtin "object.__class__") "getset_descriptor":=F.typeOf_object_class
 have f5:=F.typeOf_object_class
 have f6:=F.slot_gs_get.lookup
 have f7:=F.slot_gs_set.lookup
 have L1:=looks_findIn (M:=model prog w) X Z.cl
 repeat (any_goals (first|assumption|(with_reducible refine wpAny_loadPart_at hx ?_;rw[hc])|with_reducible refine L1.at ?_|wp_step))
 refine aem X Z hx hc ?_
 repeat (any_goals (first|assumption|wp_step))
theorem Uz {nameV:Value}{M:Model}{Q:Unit->Shared->Prop}(X:K.In h)(Z:j4 K C)(hx:h.get? a=some o)(hc:o.cls=.ref C)(hq:Q () ⟨h,g,d,t,os⟩):
 wpAny M A (checkBuiltinCall "BaseException.__getattribute__" ⟨[.ref a,nameV],[]⟩) Q E ⟨h,g,d,t,os⟩:=by
 have hk:builtinKind "BaseException.__getattribute__"=some .slot:=by decide +kernel
 have hsplit:splitId "BaseException.__getattribute__"=some ("BaseException","__getattribute__"):=by decide +kernel
 have ha:=F.args_bexc_ga (.ref a) nameV
 have L1:=looks_mroIn (M:=M) X Z.bx
 simp only[checkBuiltinCall,hk,hsplit]
 refine wpAny_bind ?_
 . unfold isInstance
   repeat (first|(with_reducible refine wpAny_loadPart_at hx ?_;rw[hc])|with_reducible refine L1.at ?_|wp_step)
   exact hq
theorem aeo {tk:Tok}{fill expr:Bool}{Q:Value->Shared->Prop}(X:K.In h)(Z:j4 K C)(hx:h.get? a=some o)(hc:o.cls=.ref C)(hq:Q (.ref C) ⟨h,g,d,t,os⟩):
 wpAny (model prog w) A (getAttrBy (.ref a) (.str "__class__" tk) fill expr) Q E ⟨h,g,d,t,os⟩:=by
 have f3:=F.attr_ValueError.ga.bind (.ref a)
 have hx0:(expr && onTheHeap (Value.builtin "BaseException.__getattribute__"))=false:=by cases expr <;> rfl
 have hx2:(Value.builtin "BaseException.__getattribute__" == Value.builtin "object.__getattribute__")=false:=by decide +kernel
 have hx1:(onTheHeap (Value.ref C) && Value.builtin "BaseException.__getattribute__" == Value.builtin "object.__getattribute__")=false:=by rw[hx2];rfl
 have L1:=looks_findIn (M:=model prog w) X Z.ga
 have L2:=looks_findIn (M:=model prog w) X Z.gt
 repeat (any_goals (first|assumption|(with_reducible refine wpAny_loadPart_at hx ?_;rw[hc])|with_reducible refine L1.at ?_|with_reducible refine L2.at ?_|wp_step))
 refine codeAny_call_builtin F.attr_ValueError.ga.plain F.entry_bexc_ga (Uz X Z hx hc (aen X Z hx hc ?_))
 repeat (any_goals (first|assumption|wp_step))
theorem aep {Q:Option Value->Shared->Prop}(X:K.In h)(Z:j4 K C)(hx:h.get? a=some o)(hc:o.cls=.ref C)(hq:Q (some (.ref C)) ⟨h,g,d,t+1,os⟩):wpAny (model prog w) A (getAttr? (.ref a) "__class__") Q E ⟨h,g,d,t,os⟩:=by
 unfold getAttr? getAttrBy?
 repeat (any_goals (first|assumption|with_reducible apply aeo X Z hx hc|wp_step))
end
theorem aer {K:Frag}{a C:Addr}(Z:j4 K C):KitX K (.ref a) (.ref C) (λh=>∃o,h.get? a=some o/\o.cls=.ref C) where
 ty:=λM h _ ⟨o,hx,hc⟩=>by
  have z:Looks M h (typeOf (.ref a)) o.cls:=(Looks.ld hx).andThen .now
  rw[hc] at z
  exact z
 it:=λM h X _=>by
  have h2:=Z.is
  unfold clsIn at h2
  split at h2
  . rename_i c' d' cd' sl' ho
    intro A' Q' E' s' k q
    unfold isType loadHead
    exact wpAny_bind (wpAny_loadPart (k _ _ (X _ _ ho)) (wpAny_pure q))
  . cases h2
 ne:=λh tp dd its n sl X htp=>by
  have h2:=Z.is
  refine Bool.eq_false_iff.mpr λq=>?_
  have e:C=tp:=by
   have:=beq_iff_eq.mp q
   cases this
   rfl
  subst e
  unfold clsIn at h2
  split at h2
  . rename_i c' d' cd' sl' ho
    have:=X _ _ ho
    rw[htp] at this
    cases this
  . cases h2
 ca:=λ{prog w A E Q s} X ⟨o,hx,hc⟩ k=>by
  obtain⟨h,g,d,t,os⟩:=s
  exact aep X Z hx hc k
end L2
namespace L2
open PySem PySem.Spec PyProof.Rows
noncomputable def PJ (X:Cx) (es:List Expr) (n:Nat) (t:St->Hp->Prop):Prop:=
 ∀(pins:List (Addr × Obj)) (s:Shared) (σ:St) (H:Hp) (Q:VK) (acc:Str),Inv X pins σ H s->t σ H->acc.length+n<=sizeLine->(∀x:Str,Q (.str x) H)->wpAny (model X.prog X.w) X.A (joinParts acc (evalEach es X.env)) (EP X pins σ Q) X.xe s
section
variable {X:Cx}{es:List Expr}{n k:Nat}{t:St->Hp->Prop}{pos:Pos}
theorem Bk:PJ X [] 0 (λ_ _=>True):=λpins s σ H Q acc I _ hl q=>joinParts_nil ⟨.str acc,H,I.tok _,⟨_,rfl⟩,q acc⟩ (by omega)
theorem uQ (x y:Str):(x++y).length=x.length+y.length:=strLen_append x y
theorem pZ {x:Str}{j:Nat}(h:PJ X es n t)(hx:x.length<=k:=by decide +kernel):PJ X (.Constant (.str x) j pos::es) (k+n) t:=λpins s σ H Q acc I ht hl q=>by
 refine joinParts_cons (Calls.Constant_str ⟨by rw[uQ];omega,?_⟩)
 exact h pins _ σ H Q (acc++x) (I.tok _) ht (by rw[uQ];omega) q
theorem aes {e:Expr}{te:TE}(he:PE X e te)(h:PJ X es n t):PJ X (.FormattedValue e (-1) none pos::es) (k+n) (λσ H=>te σ H (λv H'=>H'=H/\∃x:Str,v=.str x/\x.length<=k/\t σ H)):=λpins s σ H Q acc I ht hl q=>by
 refine joinParts_cons (FormattedValue_plain (aP (he pins s σ H _ I ht) λv s1 ⟨y,H1,I1,r,e1,x,e2,hx,ht'⟩=>?_))
 subst e1 e2
 obtain⟨tk,rfl⟩:=r
 refine formatField_str (λt' tk'=>⟨by rw[uQ];omega,?_⟩) (by omega)
 exact h pins _ σ H1 Q (acc++x) (I1.tok _) ht' (by rw[uQ];omega) q
theorem GZ {e:Expr}{te:TE}(he:PE X e te)(h:PJ X es n t):PJ X (.FormattedValue e 114 none pos::es) (k+n) (λσ H=>te σ H (λv H'=>H'=H/\∃x:Str,v=.str x/\(reprText x).length<=k/\t σ H)):=λpins s σ H Q acc I ht hl q=>by
 refine joinParts_cons (wpAny_FormattedValue_repr (aP (he pins s σ H _ I ht) λv s1 ⟨y,H1,I1,r,e1,x,e2,hx,ht'⟩=>?_))
 subst e1 e2
 obtain⟨tk,rfl⟩:=r
 refine wpAny_pyReprObj_str ?_ (by omega)
 refine formatField_str (λt' tk'=>⟨by rw[uQ];omega,?_⟩) (by omega)
 exact h pins _ σ H1 Q (acc++reprText x) ((I1.tok _)) ht' (by rw[uQ];omega) q
theorem Bl {v₁ v₂:Expr}(h:PJ X (v₁::v₂::es) n t)(hn:n<=sizeLine:=by decide):PE X (.JoinedStr (v₁::v₂::es) pos) (λσ H Q=>t σ H/\∀x:Str,Q (.str x) H):=λpins s σ H Q I ⟨ht,q⟩=>
 JoinedStr_many (h pins s σ H Q Str.empty I ht (by show 0+n<=sizeLine;omega) q)
end
noncomputable def cT (x:Str):List Key:=[Sum.inr x]
theorem G3 (x y:Str):gB (cT x) (cT y)=decide (x.cps.toList<y.cps.toList):=by
 unfold cT
 rw[Bd]
 by_cases e:(Sum.inr x:Key)=Sum.inr y
 . rw[if_pos e]
   have e:=Sum.inr.inj e
   subst e
   have h:¬x.cps.toList<x.cps.toList:=List.lt_irrefl _
   rw[decide_eq_false h]
   rfl
 . rw[if_neg e]
   rfl
theorem G4 {ss:List Str}{us:List Value}(r:Vals (ss.map V.str) us){i:Nat}(hi:i<us.length):∃x t,us.getD i Value.none=.str x t/\(ss.map cT).getD i []=cT x:=by
 have hl:=r.length
 rw[List.length_map] at hl
 have h1:(ss.map V.str)[i]? =some (V.str (ss[i]'(by omega))):=by rw[List.getElem?_map,List.getElem?_eq_getElem (by omega)];rfl
 obtain⟨u,e1,t,e2⟩:=r.get h1
 subst e2
 refine⟨ss[i]'(by omega),t,by rw[List.getD_eq_getElem?_getD,e1];rfl,?_⟩
 rw[List.getD_eq_getElem?_getD,List.getElem?_map,List.getElem?_eq_getElem (by omega)]
 rfl
theorem aeu {prog:Program}{w:World}{s:Shared}{A:Around}{ss:List Str}{us:List Value}(r:Vals (ss.map V.str) us):Asks prog w A s us (O:=Bg) (λi=>(ss.map cT).getD i []):=by
 intro h2
 refine W.kas_kind (T:=.type "str") h2 (λv hv=>?_) rfl rfl ⟨rfl,λi j C hi hj q=>?_⟩
 . obtain⟨i,hi,e⟩:=List.getElem_of_mem hv
   obtain⟨x,t,e1,_⟩:=G4 r hi
   rw[List.getD_eq_getElem?_getD,List.getElem?_eq_getElem hi] at e1
   have e1:us[i]=.str x t:=e1
   rw[<-e,e1]
   exact W.Looks.of_pure rfl
 . unfold W.kas_ask
   obtain⟨x,t,e1,e2⟩:=G4 r hi
   obtain⟨y,u,e3,e4⟩:=G4 r hj
   rw[e1,e3]
   refine W.kas_lt_str ?_
   have q:C (gB ((ss.map cT).getD i []) ((ss.map cT).getD j [])) s:=q
   rw[e2,e4,G3] at q
   exact q
noncomputable def G5 (K:PySem.W.Frag) (P:Addr) (lp:Pos) (qual:Str) (te:TE) (σ:St) (Q:VK):VK:=λx H1=>∃a xs,x=.ref a/\aL K H1 a xs/\xs.length<64/\bU P lp qual H1/\
 ∀c' H2,rQ P lp qual c' H2->(∀b o,b≠P->H1 b=some o->H2 b=some o)->
 ∃W:List V->Hp->Prop,W [] H2/\(∀ks H3,W ks H3->rQ P lp qual c' H3)/\(∀ks H3 y,W ks H3->xs[ks.length]? =some y->te (some y::σ) H3 λk H4=>W (ks++[k]) H4)/\
 ∀ks H3,W ks H3->ks.length=xs.length->∃ss:List Str,ks=ss.map V.str/\∀p:List Nat,p.Perm (List.range xs.length)->(p.map λi=>(ss.map cT).getD i []).Pairwise xH->∀D,H3 D=none->Q (.ref D) (upd H3 D (.lst (p.map λi=>xs.getD i .non)))
noncomputable def aev (K:W.Frag) (P:Addr) (lp:Pos) (qual:Str) (tl te:TE):TE:=λσ H Q=>tl σ H (G5 K P lp qual te σ Q)
section
variable {X:Cx}
theorem aew {x:Str}{N':List Str}{l body:Expr}{params:Arguments}{scope:Scope}{lp kp p pos:Pos}{qual:Str}{c P:Addr}{tl te:TE}{k:Nat}(hg:Gl X "sorted")(hm:X.mg "sorted"=none)(hv:bootBuiltins "sorted"=some (.builtin "sorted"))(hr:cW k X.A)(hq:X.env.qual++"<lambda>"=qual)(hcode:X.env.code=.ref c)(C:PySem.W.CodeHd X.base c P)
 (B:BM X.mg X.base) (S:uN X x N' scope) (hdef:defaultsOf params X.env=([],[])) (hb:∀(cl:List (Str × Addr)) (pm:Value) (c':Addr) (ctv u:Value),bindArgs (PySem.W.kla_fn "<lambda>" qual params body scope cl pm (.ref c') ctv) ⟨[u],[]⟩=pure [(x,u)])
 (hl:PE X l tl) (he:∀(cl:List (Str × Addr)) (f c':Addr) (s:Shared) (H:Hp),PE (Bb X x N' scope cl qual f c' s H) body te) (hs:starEach [l] X.env=[(false,eval l X.env)]:=by rfl):
 PE X (.Call (.Name "sorted" p) [l] [⟨some "key",.Lambda params body scope lp,kp⟩] pos) (aev X.K P lp qual tl te):=by
 intro pins s σ H Q I h
 refine wpAny_Call_Name_kw (pI I hg hm hv ?_)
 have ha:PA X [l] (iC tl gY):=aj hl ak (by rw[hs];rfl)
 refine callWith_kw (aP (ha pos pins s σ H (λvs H1=>match vs with|[x]=>G5 X.K P lp qual te σ Q x H1|_=>False) I h) λus s1 ⟨vs,H1,I1,r1,q1⟩=>?_) (by rw[hs];rfl) (by rw[hs];rfl)
 obtain⟨x',rfl⟩:∃x',vs=[x']:=by
  match vs,q1 with
  |[x'],_=>exact⟨x',rfl⟩
 have q1:G5 X.K P lp qual te σ Q x' H1:=q1
 obtain⟨a,xs,rfl,hqq,h64,T,cont⟩:=q1
 obtain⟨u,rfl,ru⟩:=vals1 r1
 cases ru
 show wpAny _ _ (evalAll [do let v <-eval (.Lambda params body scope lp) X.env;standAt pos;pure v]) _ _ s1
 obtain⟨cl,hclos,hsub,hget⟩:=Gi (scope:=scope) (env:=X.env) λy hy hf=>I1.ok.has y.1 (S.free y hy hf)
 refine wpAny_evalAll_cons (wpAny_bind (PySem.W.kla_eval hdef ?_))
 rw[hq]
 refine ad0 I1 hcode C B T hclos λf c' pm ctv H2 s2 I2 L2' mono=>?_
 refine wpAny_bind (wpAny_standAt (wpAny_pure (wpAny_evalAll_nil ?_)))
 show wpAny _ _ (call (.builtin "sorted") [.ref a] [(Str.ofString "key",.ref f)]) _ _ s2
 obtain⟨W,w0,wL,wt,wf⟩:=cont c' H2 L2' mono
 have hPt:∃ps,H1 P=some (.eF ps):=by
  rcases T with e|⟨c₂,e,_⟩
  . exact⟨_,e⟩
  . exact⟨_,e⟩
 have hq2:aL X.K H2 a xs:=by
  obtain⟨ps,hP⟩:=hPt
  rcases hqq with(z|⟨o,z⟩)|z
  . exact .inl (.inl (mono a _ (fW z hP (by intro z;cases z)) z))
  . exact .inl (.inr ⟨o,mono a _ (fW z hP (by intro z;cases z)) z⟩)
  . exact .inr z
 refine aP (ad6 (Q:=Q) (W:=W) I2 hq2 h64 w0 (λpl s' H' ks y u J wk hy ry=>?_) λpl s' H' ks us J wk hlen rk=>?_) λr s' ⟨v,H',J,rv,q⟩=>⟨v,H',J.pO,rv,q⟩
 . exact ad1 J S hr.hd hr.depth hsub hget (List.mem_append_left _ (List.mem_append_right _ List.mem_cons_self)) (wL ks H' wk).2 (hb cl pm c' ctv) ry (he cl f c') (wt ks H' y wk hy)
 . obtain⟨ss,k1,k3⟩:=wf ks H' wk hlen
   subst k1
   exact⟨Bg,_,aeu rk,λp p1 p2 D hD=>k3 p p1 p2 D hD⟩
end
variable {P:Program}{w:World}{K:W.Frag}{mg:Str->Option Value}{base:Heap}
theorem jZ.G6 {x qual:Str}{st:Stmt}{f:Addr}{fd:FuncData}{N ps:List Str}{k:Nat}{sp:Sp}(F:jZ K x qual st f fd)(S:bR N ps (aN st))(len:∀vs H Q E,sp vs H Q E->vs.length=ps.length)
 (hbody:∀(cdv:Value) (A:Around) (outer:List Env) (s:Shared) (H:Hp) (vs:List V) (Q:VK) (E:XK),cW k (A.deeper (envOfC qual (aN st) s.heap.objs.size f cdv))->sp vs H Q E->
   ∃t,gU (fZ (jw P w) P w K mg base N qual (aN st) f cdv A outer s H E) (bI st) t/\t { nx:=λ_ H'=>Q .non H',rt:=Q } (start N vs) H):aB P w K mg base (jw P w) (k+1) f fd ps sp:=by
 obtain⟨oc,od,kV,doc,pm,an,cdv,ct,osl,rfl,lk,hcd⟩:=F.ex
 refine Ak lk hcd S len λA outer s H vs Q E hr hsp=>?_
 exact hbody cdv A outer s H vs Q E hr hsp
theorem jZ.aez {x qual:Str}{st:Stmt}{f c:Addr}{fd:FuncData}{N ps:List Str}{k:Nat}{sp:Sp}(F:jZ K x qual st f fd)(hc:fd.code=.ref c)(S:bR N ps (aN st))(len:∀vs H Q E,sp vs H Q E->vs.length=ps.length)
 (hbody:∀(A:Around) (outer:List Env) (s:Shared) (H:Hp) (vs:List V) (Q:VK) (E:XK),cW k (A.deeper (envOfC qual (aN st) s.heap.objs.size f (.ref c)))->sp vs H Q E->
   ∃t,gU (fZ (jw P w) P w K mg base N qual (aN st) f (.ref c) A outer s H E) (bI st) t/\t { nx:=λ_ H'=>Q .non H',rt:=Q } (start N vs) H):aB P w K mg base (jw P w) (k+1) f fd ps sp:=by
 obtain⟨oc,od,kV,doc,pm,an,cdv,ct,osl,rfl,lk,hcd⟩:=F.ex
 have hc:cdv=.ref c:=hc
 subst hc
 refine Ak lk hcd S len λA outer s H vs Q E hr hsp=>?_
 exact hbody A outer s H vs Q E hr hsp
noncomputable def p8 (h:Heap) (C fI:Addr) (g_:List Value) (nid:String):Prop:=
 ∃tl N nm q bs hdct sn sub ab col dd k0 k1 k2 k3 k5 mN oI,h.get? C=some (excClassObj nm q C N bs tl hdct sn sub ab col dd k0 k1 k2 k3 k5 nid)/\h.Ns N mN/\mN "__init__"=some (.ref fI)/\OwnTail h g_ tl/\h.get? fI=some oI/\oI.cls=.type "function"
theorem p8.keeps {h h':Heap}{C fI:Addr}{g_:List Value}{nid:String}(x:p8 h C fI g_ nid)(k:∀b o,h.get? b=some o->h'.get? b=some o):p8 h' C fI g_ nid:=by
 obtain⟨tl,N,nm,q,bs,hdct,sn,sub,ab,col,dd,k0,k1,k2,k3,k5,mN,oI,h1,h2,h3,h4,h5,h6⟩:=x
 exact⟨tl,N,nm,q,bs,hdct,sn,sub,ab,col,dd,k0,k1,k2,k3,k5,mN,oI,k _ _ h1,h2.keeps k,h3,h4.keeps k,k _ _ h5,h6⟩
section
variable {prog:Program}{w:World}{A:Around}{E:Value->Shared->Prop}{hp:Heap}{g:Array GenState}{dr:Drawn}{tk:Nat}{os:OsState}{C fI:Addr}{g_:List Value}{B nid Bm:String}
theorem aeA (FB:ExcBaseFacts B nid Bm g_){us:List Value}{Q:Fin->Shared->Prop}(x:p8 hp C fI g_ nid)
 (q1:∀h' e,Heap.MadeExcOf hp h' e (.ref C) us->wpAny (model prog w) A (call (.ref fI) (.ref e::us)) (λr s'=>r=.none/\Q (.done (.ret (.ref e))) s') E ⟨h',g,dr,tk,os⟩) (hl:us.length<=sizeLine):
 wpAny (model prog w) A (Builtin.«type.__call__» ⟨.ref C::us,[]⟩) Q E ⟨hp,g,dr,tk,os⟩:=by
 obtain⟨tl,N,nm,q,bs,hdct,sn,sub,ab,col,dd,k0,k1,k2,k3,k5,mN,oI,cl,ns,ini,tail,UG,fty⟩:=x
 repeat (first|with_reducible refine wpAny_loadPart_at cl ?_|with_reducible refine wpAny_madeBy_exc cl ?_|wp_step)
 refine codeAny_call_builtin_code (Code.quiet_builtin _ FB.quiet) (wpAny_check_new_subT FB tail cl (codeAny_exc_new_subT FB tail cl ?_ hl))
 show wpAny _ _ _ _ _ _
 generalize hO1:({ cls:=.type "tuple",data:=.seq us.toArray }:Obj)=o1
 generalize G7:({ cls:=.ref C,data:=.fields #[.ref hp.objs.size,.none,.none,.none,.bool false,.none] }:Obj)=o2
 have up:∀b o,hp.get? b=some o->((hp.push o1).push o2).get? b=some o:=λb o e=>Heap.get?_push_of_some _ (Heap.get?_push_of_some _ e)
 have UJ:=up _ _ cl
 have ns':((hp.push o1).push o2).Ns N mN:=ns.keeps up
 have aeC:=up _ _ UG
 have tail':=tail.keeps up
 have ex:((hp.push o1).push o2).get? (hp.objs.size+1)=some o2:=by
  subst G7
  exact Heap.get?_push_at (by rw[Heap.size_push]) rfl
 have ecl:o2.cls=.ref C:=by rw[<-G7]
 have inC:(Value.ref C::tl).contains (.ref C)=true:=by simp
 unfold isInstance
 repeat (first|(with_reducible refine wpAny_loadPart_at ex ?_;rw[ecl])|(with_reducible refine wpAny_isSubtype_exc UJ ?_;rw[inC])|wp_step)
 show wpAny _ _ (typeLookup (.ref C) _) _ _ _
 refine wpAny_typeLookup_tail UJ ns' tail' FB.mroIs FB.init.lookup ?_
 rw[ini]
 refine wpAny_holding (wpAny_bind ?_)
 unfold bindSpecial
 refine wpAny_bind (wpAny_typeOf (T:="function") ⟨_,aeC,fty⟩ ?_)
 rw[if_pos (by decide)]
 refine wpAny_pure (wpAny_bind (wpAny_mono (q1 _ (hp.objs.size+1) ⟨up,Heap.get?_none_of_le (Nat.le_succ _),hp.objs.size,?_,Heap.get?_none_of_le (Nat.le_refl _),?_⟩) (λr s' hr=>?_) λ_ _ z=>z))
 . rw[ex,<-G7]
 . rw[<-hO1]
   exact Heap.get?_push_of_some _ (Heap.get?_push_at rfl rfl)
 . obtain⟨rfl,hQ⟩:=hr
   wp_walk
   exact hQ
theorem aeE (FB:ExcBaseFacts B nid Bm g_){us:List Value}{Q:Value->Shared->Prop}(x:p8 hp C fI g_ nid)
 (q1:∀h' e,Heap.MadeExcOf hp h' e (.ref C) us->wpAny (model prog w) (A.under (.builtin "type.__call__" ⟨.ref C::us,[]⟩)) (call (.ref fI) (.ref e::us)) (λr s'=>r=.none/\Q (.ref e) s') E ⟨h',g,dr,tk,os⟩) (hl:us.length<=sizeLine):
 wpAny (model prog w) A (call (.ref C) us) Q E ⟨hp,g,dr,tk,os⟩:=by
 have tl1:=tc_lookup
 have tl2:=tc_bind (.ref C)
 have x':=x
 obtain⟨tl,N,nm,q,bs,hdct,sn,sub,ab,col,dd,k0,k1,k2,k3,k5,mN,oI,cl,ns,ini,tail,UG,fty⟩:=x'
 have ty:(⟨hp,g,dr,tk,os⟩:Shared).TypeIs (.ref C) "type":=⟨_,cl,rfl⟩
 refine wpAny_call (codeAny_of_tree ?_)
 show wpAny _ _ (callAny (.ref C) _) _ _ _
 repeat (any_goals (first|assumption|with_reducible refine wpAny_loadPart_at cl ?_|wp_step))
 exact⟨rfl,codeAny_call_builtin_at (Code.quiet_builtin _ (by decide +kernel)) entry_typeCall (wpAny_check_type_call_sub cl (aeA FB x (λh' e hm=>q1 h' e hm) hl))⟩
end
theorem aeF {M:Model}{A:Around}{E:Value->Shared->Prop}{env:Env}{s:Shared}{x:Sem Value}{Q:Flow->Shared->Prop}(hh:A.handled=none)
 (h:wpAny M A x (λv s1=>∃(e C:Addr) (oe:Obj) (t:Value) (r:Array Value),v=.ref e/\s1.heap.get? e=some oe/\oe.cls=.ref C/\oe.data=.fields #[t,.none,.none,.none,.bool false,.none]/\
   (∃tl N nm q bs hdct sn sub ab col dd k0 k1 k2 k3 k5 nid,s1.heap.get? C=some (excClassObj nm q C N bs tl hdct sn sub ab col dd k0 k1 k2 k3 k5 nid)/\tl.contains (.type "BaseException")=true)/\E (.ref e) s1) E s):
 wpAny M A (raiseStmt env (some x) none) Q E s:=by
 unfold raiseStmt
 refine wpAny_bind (wpAny_mono h (λv s1 h1=>?_) λ_ _ z=>z)
 obtain⟨e,C,oe,t,r,rfl,he,hc,hd,⟨tl,N,nm,q,bs,hdct,sn,sub,ab,col,dd,k0,k1,k2,k3,k5,nid,cl,hb⟩,hE⟩:=h1
 have inB:(Value.ref C::tl).contains (.type "BaseException")=true:=by rw[List.contains_cons,hb,Bool.or_true]
 obtain⟨hp,g,dr,tk,os⟩:=s1
 obtain⟨oc,od,oda,osl⟩:=oe
 have hc:oc=.ref C:=hc
 have hd:oda=.fields #[t,.none,.none,.none,.bool false,.none]:=hd
 subst hc
 subst hd
 repeat (first|with_reducible refine wpAny_loadPart_at he ?_|with_reducible refine wpAny_loadPart_at cl ?_|(with_reducible refine wpAny_isSubtype_exc cl ?_;rw[inB])|wp_step)
 exact wpAny_raiseNew_none hh hE
end L2
namespace L2
open PySem PySem.Spec PySem.Calls PyProof.Rows PySem.W PySem.Builtin PySem.Builtin.ObjectAttr
noncomputable def Bo:List Value->Bool
 | .ref _::r=>Bo r
 |l=>l == [.type "ValueError",.type "Exception",.type "BaseException",.type "object"]
theorem UL {self:Value}:∀{l:List Value},Bo l=true->refuseLoop self "__setattr__" l=pure ()
 |[],h=>by cases h
 | .ref C::r,h=>by
   rw[refuseLoop_ref]
   exact UL (l:=r) h
 | .type n::r,h=>by
   have e:Value.type n::r=[.type "ValueError",.type "Exception",.type "BaseException",.type "object"]:=beq_iff_eq.mp h
   rw[e]
   exact F.store_ValueError.passes self
 | .none::r,h=>by cases beq_iff_eq.mp (show(Value.none::r == _)=true from h)
 | .bool b::r,h=>by cases beq_iff_eq.mp (show(Value.bool b::r == _)=true from h)
 | .int i t::r,h=>by cases beq_iff_eq.mp (show(Value.int i t::r == _)=true from h)
 | .str x t::r,h=>by cases beq_iff_eq.mp (show(Value.str x t::r == _)=true from h)
 | .bytes x t::r,h=>by cases beq_iff_eq.mp (show(Value.bytes x t::r == _)=true from h)
 | .float x t::r,h=>by cases beq_iff_eq.mp (show(Value.float x t::r == _)=true from h)
 | .builtin x::r,h=>by cases beq_iff_eq.mp (show(Value.builtin x::r == _)=true from h)
 | .ellipsis::r,h=>by cases beq_iff_eq.mp (show(Value.ellipsis::r == _)=true from h)
 | .notImplemented::r,h=>by cases beq_iff_eq.mp (show(Value.notImplemented::r == _)=true from h)
structure qd (K:Frag) (C:Addr) (name:Str):Prop where
 sa:findIn K (.ref C) "__setattr__"=some (some (.builtin "object.__setattr__"))
 na:findIn K (.ref C) name=some none
 ob:mroIn K C (.type "object")=some true
 row:((clsIn K C).any λcd=>Bo cd.mro && cd.hasDict)=true
section
variable {prog:Program}{w:World}{A:Around}{E:Value->Shared->Prop}{s:Shared}{K:Frag}{x C:Addr}{ox:Obj}{name:Str}{v:Value}
theorem aeG {R:Result->Shared->Prop}{tk:Tok}(X:K.In s.heap)(Z:qd K C name)(hx:s.heap.get? x=some ox)(hc:ox.cls=.ref C)
 (h:wpAny (model prog w) A.in1 (storeInOwnDict (.ref x) (.ref C) (.str name tk) name v false) (λfin s'=>match fin with| .done f=>R (.ok f) s'| .again c'=>c'.quiet=true/\codeAny (model prog w) A c' R s') (λe s'=>R (.error e) s') s):
 codeAny (model prog w) A (.call (.builtin "object.__setattr__") ⟨[.ref x,.str name tk,v],[]⟩) R s:=by
 have SF:=PySem.F.store_object
 have L0:Looks (model prog w) s.heap (typeOf (.ref x)) (.ref C):=by
  have z:Looks (model prog w) s.heap (typeOf (.ref x)) ox.cls:=(Looks.ld hx).andThen .now
  rw[hc] at z
  exact z
 have Lo:Looks (model prog w) s.heap (isInstance (.ref x) (.type "object")) true:=L0.andThen (looks_mroIn X Z.ob)
 obtain⟨cd,hcd,hrow⟩:=any_some Z.row
 have hr:=(Bool.and_eq_true_iff.mp hrow).1
 have Lm:Looks (model prog w) s.heap (mroOf (.ref C)) cd.mro:=(looks_clsIn X hcd).andThen .now
 refine codeAny_call_builtin SF.slot.plain SF.entry (@check_slot (model prog w) _ _ s "object.__setattr__" "object" "__setattr__" (.ref x) [.str name tk,v] [] _ SF.kind SF.split Lo (SF.args (.ref x) (.str name tk) v) ?_)
 rw[osa_eq,refuse_eq]
 refine wpAny_bind (wpAny_bind (L0.here (wpAny_bind (Lm.here ?_))))
 rw[UL hr]
 refine wpAny_pure (wpAny_bind (L0.here (wpAny_bind ((looks_findIn X Z.na).here (wpAny_bind ?_)))))
 exact(show Looks (model prog w) s.heap (storeTaker? none) none from .now).here h
theorem aeH {Q:Unit->Shared->Prop}{vs:Array Value}(X:K.In s.heap)(Z:qd K C name)(hx:s.heap.get? x=some ox)(hc:ox.cls=.ref C)(hdn:ox.dict=none)(hd:ox.data=.fields vs)
 (h:∀h' tk',h'.Ns1 s.heap.objs.size (λy=>if y=name then some v else none)->h'.get? x=some { ox with dict:=some s.heap.objs.size }->(∀b o,b≠x->s.heap.get? b=some o->h'.get? b=some o)->Q () { s with heap:=h',toks:=tk' }):
 wpAny (model prog w) A (setAttr (.ref x) name v) Q E s:=by
 have I:InstAt s.heap x ox C none:=⟨hx,hc,by unfold notCls;rw[hd],by rw[hdn];trivial⟩
 refine set_plain X I Z.sa (aeG (s:={ s with toks:=s.toks+1 }) X Z hx hc ?_)
 obtain⟨cd,hcd,hrow⟩:=any_some Z.row
 have hdct:=(Bool.and_eq_true_iff.mp hrow).2
 obtain⟨oc,od,oda,osl⟩:=ox
 have hc:oc=.ref C:=hc
 have hdn:od=none:=hdn
 have hd:oda=.fields vs:=hd
 subst hc
 subst hdn
 subst hd
 have Lc:=looks_clsIn (M:=model prog w) X hcd
 obtain⟨hp,g,dr,tk,os⟩:=s
 have hx:hp.get? x=some ⟨.ref C,none,.fields vs,osl⟩:=hx
 have hxs:x≠hp.objs.size:=Nat.ne_of_lt (Heap.lt_size hx)
 unfold storeInOwnDict
 refine wpAny_bind (wpAny_pure ?_)
 refine wpAny_bind ?_
 show wpAny _ _ (instanceDict x true) _ _ _
 unfold instanceDict
 refine wpAny_bind (wpAny_loadPart hx (wpAny_bind (Lc.at ?_)))
 rw[hdct]
 rw[if_neg (by decide)]
 show wpAny _ _ (if(!true || !typeHasDict (.ref C))=true then _ else _) _ _ _
 rw[if_neg (by simp[typeHasDict])]
 show wpAny _ _ (alloc _ >>= _) _ _ _
 have hx1:(hp.push { cls:=.type "dict",data:=.dict #[] }).get? x=some ⟨.ref C,none,.fields vs,osl⟩:=Heap.get?_push_of_some _ hx
 refine wpAny_bind (wpAny_alloc' (wpAny_bind (wpAny_update' hx1 (wpAny_pure ?_))))
 generalize hH:(hp.push { cls:=.type "dict",data:=.dict #[] }).update x (λo=>{ cls:=o.cls,dict:=some hp.objs.size,data:=o.data,slots:=o.slots })=h1
 have gd:h1.get? hp.objs.size=some { cls:=.type "dict",data:=.dict #[] }:=by
  rw[<-hH]
  exact(Heap.get?_update_ne _ _ _ _ hxs.symm).trans (Heap.get?_push_at rfl rfl)
 have gx:h1.get? x=some ⟨.ref C,some hp.objs.size,.fields vs,osl⟩:=by
  rw[<-hH]
  exact Heap.get?_update_self _ hx1 rfl
 have go:∀b o,b≠x->hp.get? b=some o->h1.get? b=some o:=λb o hb e=>by
  rw[<-hH]
  exact(Heap.get?_update_ne _ _ _ _ hb).trans (Heap.get?_push_of_some _ e)
 have nsd:h1.Ns hp.objs.size (λ_=>none):=⟨_,#[],_,gd,rfl,(λe he=>absurd he (by simp)),λ_=>rfl⟩
 show wpAny _ _ (storeInDict hp.objs.size (.str name tk) name v) _ _ _
 unfold storeInDict newKeyGuard
 refine wpAny_bind (wpAny_pure (wpAny_bind (wpAny_nsSet1 (Heap.Ns1.of_empty nsd) λh2 hn2 hs2=>?_)))
 obtain⟨oD,esD,epD,hoD,hdD,hcD⟩:=hn2.count (PySem.Within.cons name v PySem.Within.nil)
 refine wpAny_bind (wpAny_lookBehind hoD (by rw[hdD];exact pastItsLine_dict (Nat.le_trans hcD (by rw[List.length_cons,List.length_nil,sizeLine_eq];omega))) ?_)
 exact wpAny_pure (h h2 _ hn2 ((hs2.2 x hxs).trans gx) λb o hb e=>(hs2.2 b (Nat.ne_of_lt (Heap.lt_size e))).trans (go b o hb e))
end
end L2
namespace L2
open PySem PySem.Spec PySem.Calls PyProof.Rows PySem.W PySem.Builtin PySem.Builtin.ObjectAttr PySem.Builtin.Getset_descriptor
section
variable {prog:Program}{w:World}{A:Around}{E:Value->Shared->Prop}{K:Frag}{h:Heap}{g:Array GenState}{d:Drawn}{t:Nat}{os:OsState}{a C dx:Addr}{o:Obj}{vs:Array Value}{mA:Str->Option Value}{name:Str}{v:Value}
theorem aeJ {tk:Tok}{Q:Fin->Shared->Prop}(X:K.In h)(Z:j4 K C)(Y:qd K C name)(hx:h.get? a=some o)(hc:o.cls=.ref C)(hd:o.data=.fields vs)(hdx:o.dict=some dx)(hn:h.Ns dx mA)(hv:mA name=some v)(hq:Q (.done (.ret v)) ⟨h,g,d,t,os⟩):
 wpAny (model prog w) A (Builtin.«object.__getattribute__» ⟨[.ref a,.str name tk],[]⟩) Q E ⟨h,g,d,t,os⟩:=by
 obtain⟨cd,hcd,hrow⟩:=any_some Y.row
 have hdct:=(Bool.and_eq_true_iff.mp hrow).2
 have L1:=looks_findIn (M:=model prog w) X Y.na
 have L2:=looks_clsIn (M:=model prog w) X hcd
 obtain⟨oc,od,oda,osl⟩:=o
 have hc:oc=.ref C:=hc
 have hd:oda=.fields vs:=hd
 have hdx:od=some dx:=hdx
 subst hc
 subst hd
 subst hdx
 have hC:∃c' d' sl',h.get? C=some ⟨c',d',.cls cd,sl'⟩:=by
  unfold clsIn at hcd
  split at hcd
  . rename_i c' d' cd' sl' ho
    cases hcd
    exact⟨c',d',sl',X _ _ ho⟩
  . cases hcd
 obtain⟨c',d',sl',hC⟩:=hC
 obtain⟨c1,c2,c3,c4,c5,c6,c7,c8,c9,qe,qg⟩:=cd
 have hdct:c6=true:=hdct
 subst hdct
 repeat (any_goals (first|assumption|with_reducible refine wpAny_loadPart_at hx ?_|with_reducible refine wpAny_loadPart_at hC ?_|with_reducible refine L1.at ?_|(with_reducible refine wpAny_nsGet hn ?_;rw[hv])|wp_step))
theorem aeK {tk:Tok}{fill expr:Bool}{Q:Value->Shared->Prop}(X:K.In h)(Z:j4 K C)(Y:qd K C name)(hx:h.get? a=some o)(hc:o.cls=.ref C)(hd:o.data=.fields vs)(hdx:o.dict=some dx)(hn:h.Ns dx mA)(hv:mA name=some v)(hh:handedOut v=pure v)(hq:Q v ⟨h,g,d,t,os⟩):
 wpAny (model prog w) A (getAttrBy (.ref a) (.str name tk) fill expr) Q E ⟨h,g,d,t,os⟩:=by
 have f3:=F.attr_ValueError.ga.bind (.ref a)
 have hx0:(expr && onTheHeap (Value.builtin "BaseException.__getattribute__"))=false:=by cases expr <;> rfl
 have hx2:(Value.builtin "BaseException.__getattribute__" == Value.builtin "object.__getattribute__")=false:=by decide +kernel
 have hx1:(onTheHeap (Value.ref C) && Value.builtin "BaseException.__getattribute__" == Value.builtin "object.__getattribute__")=false:=by rw[hx2];rfl
 have L1:=looks_findIn (M:=model prog w) X Z.ga
 have L2:=looks_findIn (M:=model prog w) X Z.gt
 repeat (any_goals (first|assumption|(with_reducible refine wpAny_loadPart_at hx ?_;rw[hc])|with_reducible refine L1.at ?_|with_reducible refine L2.at ?_|wp_step))
 refine codeAny_call_builtin F.attr_ValueError.ga.plain F.entry_bexc_ga (Uz X Z hx hc (aeJ X Z Y hx hc hd hdx hn hv ?_))
 repeat (any_goals (first|assumption|wp_step))
theorem aeL {expr:Bool}{Q:Value->Shared->Prop}(X:K.In h)(Z:j4 K C)(Y:qd K C name)(hx:h.get? a=some o)(hc:o.cls=.ref C)(hd:o.data=.fields vs)(hdx:o.dict=some dx)(hn:h.Ns dx mA)(hv:mA name=some v)(hh:handedOut v=pure v)(hq:Q v ⟨h,g,d,t+1,os⟩):
 wpAny (model prog w) A (getAttr (.ref a) name expr) Q E ⟨h,g,d,t,os⟩:=by
 unfold getAttr
 repeat (any_goals (first|assumption|with_reducible apply aeK X Z Y hx hc hd hdx hn hv hh|wp_step))
end
end L2
namespace L2
open PySem PySem.Spec PyProof.Rows
section
variable {M:Model}{A:Around}{E:Value->Shared->Prop}{s:Shared}
structure fj (h:Heap) (e T:Addr) (cls:Value) (dd:Option Addr) (fl:Value):Prop where
 ex:∃oe vs,h.get? e=some oe/\oe.cls=cls/\oe.dict=dd/\oe.data=.fields vs/\vs[1]? =some (.ref T)
 tb:∃oT ts,h.get? T=some oT/\oT.data=.fields ts/\ts[3]? =some fl
 ne:T≠e
theorem uR {e T:Addr}{cls fl:Value}{dd:Option Addr}{Q:Unit->Shared->Prop}(t:fj s.heap e T cls dd fl)(h:∀h',fj h' e T cls dd .none->(∀b o,b≠T->s.heap.get? b=some o->h'.get? b=some o)->(∃o',h'.get? T=some o')->Q () { s with heap:=h' }):wpAny M A (setFlight (.ref e) none) Q E s:=by
 obtain⟨⟨oe,vs,he,hc,hdi,hd,h1⟩,⟨oT,ts,hT,hdT,h3⟩,ne⟩:=t
 have em:Obj.mapFields (·.setIfInBounds 3 ((none:Option Addr).elim Value.none λf=>rawInt f)) oT={ oT with data:=.fields (ts.setIfInBounds 3 .none) }:=pY hdT
 have hsz:=(Array.getElem?_eq_some_iff.mp h3).1
 unfold setFlight
 refine wpAny_bind (wpAny_field he hd h1 ?_)
 rw[if_pos (show(Value.ref T != Value.none)=true by simp)]
 have self:=Heap.get?_update_self (Obj.mapFields (·.setIfInBounds 3 ((none:Option Addr).elim Value.none λf=>rawInt f))) hT (by rw[em];exact Obj.isFreed_of_fields rfl)
 rw[em] at self
 have oth:∀b o,b≠T->s.heap.get? b=some o->(s.heap.update T (Obj.mapFields (·.setIfInBounds 3 ((none:Option Addr).elim Value.none λf=>rawInt f)))).get? b=some o:=λb o hb ho=>by
  rw[Heap.get?_update_other _ _ (Ne.symm hb)];exact ho
 exact wpAny_setField hT hdT hsz (h _ ⟨⟨oe,vs,oth e oe (Ne.symm ne) he,hc,hdi,hd,h1⟩,⟨_,_,self,rfl,by simp[hsz]⟩,ne⟩ oth ⟨_,self⟩)
theorem UW {base:Heap}{env:Env}{outer:List Env}{L e T:Addr}{cls:Value}{dd:Option Addr}{Q:Unit->Shared->Prop}(hfr:A.frames=some (env::outer))(hl:s.heap.FunFrames base (env::outer))(hf:env.frame=some L)(t:fj s.heap e T cls dd .none)
 (h:∀(h':Heap) (T':Addr),s.heap.objs.size<=T'->(∀b o,b ∉ frs (env::outer)->b≠e->b≠T->s.heap.get? b=some o->h'.get? b=some o)->(∀b o,b≠e->b≠T->s.heap.get? b=some o->∃sl,h'.get? b=some { o with slots:=sl })->(∃o,h'.get? T=some o)->fj h' e T' cls dd (rawInt L)->Q () { s with heap:=h' }):
 wpAny M A (noteFrame (.ref e) env) Q E s:=by
 obtain⟨⟨oe,vs,he,hc,hdi,hd,h1⟩,⟨oT,ts,hT,hdT,h3⟩,ne⟩:=t
 have hsz:=(Array.getElem?_eq_some_iff.mp h3).1
 have em:Obj.mapFields (·.setIfInBounds 3 Value.none) oT={ oT with data:=.fields (ts.setIfInBounds 3 .none) }:=pY hdT
 unfold noteFrame
 simp only[hf]
 refine wpAny_bind (wpAny_field he hd h1 ?_)
 rw[if_pos (show(Value.ref T != Value.none)=true by simp)]
 refine wpAny_bind (wpAny_field hT hdT h3 ?_)
 rw[if_neg (show ¬(Value.none == rawInt L)=true by simp[rawInt])]
 refine wpAny_bind (wpAny_setField hT hdT hsz ?_)
 have self:=Heap.get?_update_self (Obj.mapFields (·.setIfInBounds 3 Value.none)) hT (by rw[em];exact Obj.isFreed_of_fields rfl)
 rw[em] at self
 have oth:∀b o,b≠T->s.heap.get? b=some o->(s.heap.update T (Obj.mapFields (·.setIfInBounds 3 Value.none))).get? b=some o:=λb o hb ho=>by
  rw[Heap.get?_update_other _ _ (Ne.symm hb)];exact ho
 have nT:∀b o,s.heap.get? b=some o->(∀vs,o.data≠ .fields vs)->b≠T:=λb o ho hn z=>by
  rw[z,hT] at ho
  cases ho
  exact hn ts hdT
 have hsize:(s.heap.update T (Obj.mapFields (·.setIfInBounds 3 Value.none))).objs.size=s.heap.objs.size:=Heap.size_update _ _ _
 refine uO (s:={ s with heap:=s.heap.update T (Obj.mapFields (·.setIfInBounds 3 Value.none)) }) hfr (hl.of_keeps λb o ho hn=>⟨o,oth b o (nT b o ho hn) ho,rfl⟩) hf (oth e oe (Ne.symm ne) he) hd (Array.getElem?_eq_some_iff.mp h1).1 λh' T' hT' hP he' htb=>?_
 have hle:s.heap.objs.size<=T':=by rw[<-hsize];exact hT'
 refine h h' T' hle (λb o hb hbe hbT ho=>hP.1 b o hb hbe (oth b o hbT ho)) (λb o hbe hbT ho=>hP.2 b o hbe (oth b o hbT ho)) ?_ ⟨⟨_,_,he',hc,hdi,rfl,by simp[(Array.getElem?_eq_some_iff.mp h1).1]⟩,htb,?_⟩
 . obtain⟨sl,hs⟩:=hP.2 T _ ne self
   exact⟨_,hs⟩
 . have h1:e<s.heap.objs.size:=Heap.lt_size he
   exact λz=>Nat.lt_irrefl e (Nat.lt_of_lt_of_le h1 (by rw[<-z];exact hle))
end
section
variable {X:Cx}{pins:List (Addr × Obj)}{σ:St}{H:Hp}{s:Shared}
theorem Inv.aeM (I:Inv X pins σ H s)(hex:X.ex=[])(hst:X.stack=X.env::X.outer)(hfm:X.env.frame=some X.env.locals){a T:Addr}{cls:Value}{dd:Option Addr}{Q:Unit->Shared->Prop}{E:Value->Shared->Prop}{M:Model}(t:fj s.heap a T cls dd .none)
 (ha:X.s₀.heap.get? a=none) (hT:X.s₀.heap.get? T=none) (na:H a=none) (nT:H T=none)
 (q:∀(h':Heap) (T':Addr),fj h' a T' cls dd .none->X.s₀.heap.get? T'=none->H T'=none->Un (frs X.outer) [] X.H₀ H X.s₀.heap h'->cQ X.prog X.w H h'->Q () { s with heap:=h' }):
 wpAny M X.A (leaving X.env (.ref a)) Q E s:=by
 have hfr:X.A.frames=some (X.env::X.outer):=by rw[<-hst];exact I.ok.frames
 have hl:s.heap.FunFrames X.base (X.env::X.outer):=by rw[<-hst];exact I.stack
 unfold leaving
 refine wpAny_bind (UW hfr hl hfm t λh1 T1 hT1 k1 k2 hTT t1=>?_)
 refine uR (s:={ s with heap:=h1 }) t1 λh2 t2 k3 hT2=>?_
 have oK:H T1=none:=I.hok.fresh hT1
 have dX:∀b o,s.heap.get? b=some o->b≠T1:=λb o e z=>by
  have h3:=Heap.lt_size e
  rw[z] at h3
  exact Nat.lt_irrefl _ (Nat.lt_of_lt_of_le h3 hT1)
 obtain⟨u,ok⟩:=I.uP hex (h':=h2) ha hT na nT (λb o hb h1' h2' e=>k3 b o (dX b o e) (k1 b o (by rw[<-hst];exact hb) h1' h2' e)) (λb o h1' h2' e=>by
  obtain⟨sl,e1⟩:=k2 b o h1' h2' e
  exact⟨sl,k3 b _ (dX b o e) e1⟩)
 exact q h2 T1 t2 (I.iG hex (Heap.rT hT1)) oK u ok
end
noncomputable def bK (P:Program) (w:World):iW:=λouter H s E e s'=>∃(a T C:Addr) (dd:Option Addr) (H':Hp),e=.ref a/\fj s'.heap a T (.ref C) dd .none/\s.heap.get? a=none/\s.heap.get? T=none/\H' a=none/\H' T=none/\s'.os=s.os/\AllBare s'.gens/\Un (frs outer) [] H H' s.heap s'.heap/\cQ P w H' s'.heap/\E (.ref C) dd H'
theorem dY {P:Program}{w:World}{K:W.Frag}{mg:Str->Option Value}{base:Heap}{N:List Str}{qual:Str}{scope:Scope}{f:Addr}{cd:Value}{A:Around}{outer:List Env}{s₀:Shared}{H₀:Hp}{E E':XK}(hE:∀C d H,E' C d H->E C d H):
 Passes (bK P w) (fZ (bK P w) P w K mg base N qual scope f cd A outer s₀ H₀ E) E':=λpins σ H s e s' I h=>by
 obtain⟨a,T,C,dd,H',rfl,t,la,lT,na,nT,os,bare,un,hok,hE'⟩:=h
 obtain⟨hh,g,d,tk,os'⟩:=s'
 obtain rfl:os'=s.os:=os
 have I':=I.call (h':=hh) (g':=g) (d':=d) (t':=tk) (ch:=[]) un hok bare (λb z=>absurd z (by simp))
 show wpAny (model P w) _ (leaving _ _) _ _ _
 refine I'.aeM rfl rfl rfl t (I.iG rfl la) (I.iG rfl lT) na nT λh' T' t' rW rY un' hok'=>?_
 exact⟨a,T',C,dd,H',rfl,t',I.iG rfl la,rW,na,rY,I'.os,bare,un',hok',hE _ _ _ hE'⟩
section
variable {M:Model}{A:Around}{E:Value->Shared->Prop}{s:Shared}
theorem aeN {base:Heap}{env:Env}{outer:List Env}{L e:Addr}{cls:Value}{dd:Option Addr}{oe:Obj}{vs:Array Value}{Q:Unit->Shared->Prop}(hfr:A.frames=some (env::outer))(hl:s.heap.FunFrames base (env::outer))(hf:env.frame=some L)
 (he:s.heap.get? e=some oe) (hc:oe.cls=cls) (hdi:oe.dict=dd) (hd:oe.data=.fields vs) (h1:vs[1]? =some .none)
 (h:∀(h':Heap) (T':Addr),s.heap.objs.size<=T'->(∀b o,b ∉ frs (env::outer)->b≠e->s.heap.get? b=some o->h'.get? b=some o)->(∀b o,b≠e->s.heap.get? b=some o->∃sl,h'.get? b=some { o with slots:=sl })->fj h' e T' cls dd (rawInt L)->Q () { s with heap:=h' }):
 wpAny M A (noteFrame (.ref e) env) Q E s:=by
 have hsz:=(Array.getElem?_eq_some_iff.mp h1).1
 unfold noteFrame
 simp only[hf]
 refine wpAny_bind (wpAny_field he hd h1 ?_)
 rw[if_neg (by decide)]
 refine uO hfr hl hf he hd hsz λh' T' hT' hP he' htb=>?_
 refine h h' T' hT' hP.1 hP.2 ⟨⟨_,_,he',hc,hdi,rfl,by simp[hsz]⟩,htb,λz=>?_⟩
 have h3:=Heap.lt_size he
 rw[<-z] at h3
 exact Nat.lt_irrefl _ (Nat.lt_of_lt_of_le h3 hT')
end
section
variable {X:Cx}{pins:List (Addr × Obj)}{σ:St}{H:Hp}{s:Shared}
theorem Inv.aeO (I:Inv X pins σ H s)(hex:X.ex=[])(hst:X.stack=X.env::X.outer)(hfm:X.env.frame=some X.env.locals){a:Addr}{oe:Obj}{vs:Array Value}{cls:Value}{dd:Option Addr}{Q:Unit->Shared->Prop}{E:Value->Shared->Prop}{M:Model}
 (he:s.heap.get? a=some oe) (hc:oe.cls=cls) (hdi:oe.dict=dd) (hd:oe.data=.fields vs) (h1:vs[1]? =some .none) (ha:X.s₀.heap.get? a=none) (na:H a=none)
 (q:∀(h':Heap) (T':Addr),fj h' a T' cls dd .none->X.s₀.heap.get? T'=none->H T'=none->Un (frs X.outer) [] X.H₀ H X.s₀.heap h'->cQ X.prog X.w H h'->Q () { s with heap:=h' }):
 wpAny M X.A (leaving X.env (.ref a)) Q E s:=by
 have hfr:X.A.frames=some (X.env::X.outer):=by rw[<-hst];exact I.ok.frames
 have hl:s.heap.FunFrames X.base (X.env::X.outer):=by rw[<-hst];exact I.stack
 unfold leaving
 refine wpAny_bind (aeN hfr hl hfm he hc hdi hd h1 λh1 T1 hT1 k1 k2 t1=>?_)
 refine uR (s:={ s with heap:=h1 }) t1 λh2 t2 k3 hT2=>?_
 have oK:H T1=none:=I.hok.fresh hT1
 have dX:∀b o,s.heap.get? b=some o->b≠T1:=λb o e z=>by
  have h3:=Heap.lt_size e
  rw[z] at h3
  exact Nat.lt_irrefl _ (Nat.lt_of_lt_of_le h3 hT1)
 obtain⟨u,ok⟩:=I.uP hex (h':=h2) ha ha na na (λb o hb h1' _ e=>k3 b o (dX b o e) (k1 b o (by rw[<-hst];exact hb) h1' e)) (λb o h1' _ e=>by
  obtain⟨sl,e1⟩:=k2 b o h1' e
  exact⟨sl,k3 b _ (dX b o e) e1⟩)
 exact q h2 T1 t2 (I.iG hex (Heap.rT hT1)) oK u ok
end
noncomputable def lq (a C:Addr) (dd:Option Addr):HO:=.ext λh=>∃o,h.get? a=some o/\o.cls=.ref C/\o.dict=dd/\∃vs,o.data=.fields vs
theorem lq.ok {P:Program}{w:World}{H:Hp}{h:Heap}{a C:Addr}{dd:Option Addr}(e:∃o,h.get? a=some o/\o.cls=.ref C/\o.dict=dd/\∃vs,o.data=.fields vs):eG P w H h a (lq a C dd):=
 ⟨e,let⟨o,h1,_⟩:=e;⟨o,h1⟩,λ_ _ ⟨o,h1,h2⟩ k=>⟨o,k o h1,h2⟩⟩
noncomputable def xM (X:Cx) (pins:List (Addr × Obj)) (σ:St) (Ek:XK) (e:Value) (s':Shared):Prop:=∃H s,Inv X pins σ H s/\bK X.prog X.w X.stack H s Ek e s'
noncomputable def rZ (X:Cx) (Ek:XK) (e:Expr) (t:TE):Prop:=
 ∀(pins:List (Addr × Obj)) (s:Shared) (σ:St) (H:Hp) (Q:VK),Inv X pins σ H s->t σ H Q->wpAny (model X.prog X.w) X.A (eval e X.env) (EP X pins σ Q) (xM X pins σ Ek) s
noncomputable def U0 (X:Cx) (Ek:XK) (st:List Stmt) (t:TS):Prop:=
 ∀(pins:List (Addr × Obj)) (s:Shared) (σ:St) (H:Hp) (D:Ends),Inv X pins σ H s->t D σ H->wpAny (model X.prog X.w) X.A (execs st X.env) (SP X pins D) (xM X pins σ Ek) s
section
variable {X:Cx}{k:Nat}{f:Addr}{fd:FuncData}{ps:List Str}{sp:Sp}{dh:List V}{ds:List Value}{Ek:XK}{x:Str}{p pos:Pos}{e:Expr}{es:List Expr}{t:TA}{te:TE}
theorem U3 (F:aB X.prog X.w X.K X.mg X.base (bK X.prog X.w) k f fd ps sp)(hr:cW k X.A)(hg:Gl X x)(hm:X.mg x=some (.ref f))(hk:W.keepIn X.K (.ref f)=true)(hb:Binds X.K fd ps ds)(hd:Vals dh ds)
 (ha:PA X.ur (e::es) t) (hdb:(x == ("__debug__":Str))=false:=by decide) (he:starEach (e::es) X.env=(false,eval e X.env)::starEach es X.env:=by rfl) (hpl:(backTo pos (starEach es X.env)).any (·.1)=false:=by rfl):
 rZ X Ek (.Call (.Name x p) (e::es) [] pos) (wM sp dh Ek t):=by
 intro pins s σ H Q I h
 refine wpAny_Call_Name_kw (rH I hg hm ?_ hdb)
 refine W.callWith_K (h₀:=X.base) I.ok.mod.pC hk (wpAny_mono (ha pos pins s σ H _ (I.wish _) h) (λus s1 ⟨vs,H1,I1,r,q⟩=>⟨I1.eH,?_⟩) λ_ _ z=>False.elim z) he hpl
 have I1:=I1.m_
 have r2:Vals (vs++dh) (us++ds):=r.append hd
 have hl:(us++ds).length=ps.length:=by rw[<-r2.length];exact F.len _ _ _ _ q
 refine wpAny_call (codeAny_mono (F.run X.A X.stack s1 H1 ⟨us,[]⟩ (us++ds) (vs++dh) Q Ek hr I1.env0 (hb s1 us I1.eH hl) r2 q) λr s' hq=>?_)
 cases r with
 |error e=>exact⟨H1,s1,I1,hq⟩
 |ok fl=>
  cases fl with
  |ret u=>exact I1.after hq
  |next=>exact False.elim hq
  |brk=>exact False.elim hq
  |cont=>exact False.elim hq
theorem aeP {i:Nat}{y:Str}{pos':Pos}(hN:X.N.Nodup)(hi:X.N[i]? =some y)(hx:Loc X.env.scope y)(he:rZ X Ek e te)(hs:swapsWith e (some (.Name y pos')) pos.line X.env=pure false:=by rfl)(hf:X.fn y=true\/X.env.scope.names.lookup y=some .local:=by first|exact .inl rfl|exact .inr rfl|assumption):
 U0 X Ek [.Assign [.Name y pos'] e pos] (nj te (gA i)):=by
 intro pins s σ H D I h
 refine wpAny_execs_cons (wpAny_Assign_Name (wpAny_mono (he pins s σ H _ I h) (λv s1 ⟨z,H1,I1,r1,q1⟩=>?_) λ_ _ z=>z) hs)
 exact wC I1 hN hi hx r1 (λs2 I2=>wpAny_execs_nil ⟨_,H1,I2,q1⟩) hf
end
theorem aeQ {X:Cx}{pins:List (Addr × Obj)}{σ:St}{Ek:XK}{e:Value}{s':Shared}{Q:Unit->Shared->Prop}{E:Value->Shared->Prop}(hst:X.stack=X.env::X.outer)(hfm:X.env.frame=some X.env.locals)(h:xM X pins σ Ek e s')
 (q:∀(a C T:Addr) (dd:Option Addr) (H':Hp) (h2:Heap),e=.ref a->H' a=none->Ek (.ref C) dd H'->fj h2 a T (.ref C) dd .none->Inv X pins σ (upd H' a (lq a C dd)) { s' with heap:=h2 }->
   (∀h3:Heap,fj h3 a T (.ref C) dd .none->(∀b o,b≠T->h2.get? b=some o->h3.get? b=some o)->Inv X pins σ (upd H' a (lq a C dd)) { s' with heap:=h3 })->Q () { s' with heap:=h2 }):
 wpAny (model X.prog X.w) X.A (noteFrame e X.env) (λ_ s2=>wpAny (model X.prog X.w) X.A (setFlight e none) Q E s2) E s':=by
 obtain⟨H,s,I,a,T,C,dd,H',rfl,t,la,lT,na,nT,os,bare,un,hok,hE⟩:=h
 have I':=I.call' (s':=s') (ch:=[]) os un hok bare (λb z=>absurd z (by simp))
 have hfr:X.A.frames=some (X.env::X.outer):=by rw[<-hst];exact I.ok.frames
 have hl:s'.heap.FunFrames X.base (X.env::X.outer):=by rw[<-hst];exact I'.stack
 refine UW hfr hl hfm t λh1 T1 hT1 k1 k2 hTT t1=>?_
 refine uR (s:={ s' with heap:=h1 }) t1 λh2 t2 k3 hT2=>?_
 have dX:∀b o,s'.heap.get? b=some o->b≠T1:=λb o e z=>by
  have h3:=Heap.lt_size e
  rw[z] at h3
  exact Nat.lt_irrefl _ (Nat.lt_of_lt_of_le h3 hT1)
 have key:∀h3:Heap,fj h3 a T1 (.ref C) dd .none->(∀b o,b≠T1->h2.get? b=some o->h3.get? b=some o)->Inv X pins σ (upd H' a (lq a C dd)) { s' with heap:=h3 }:=λh3 t3 k4=>by
  have m1:∀b o,b ∉ frs X.stack->b≠a->b≠T->s'.heap.get? b=some o->h3.get? b=some o:=λb o hb n1 n2 e=>
   k4 b o (dX b o e) (k3 b o (dX b o e) (k1 b o (by rw[<-hst];exact hb) n1 n2 e))
  have m2:∀b o,b≠a->b≠T->s'.heap.get? b=some o->∃sl,h3.get? b=some { o with slots:=sl }:=λb o n1 n2 e=>by
   obtain⟨sl,e1⟩:=k2 b o n1 n2 e
   exact⟨sl,k4 b _ (dX b o e) (k3 b _ (dX b o e) e1)⟩
  have old:∀b o,s.heap.get? b=some o->b≠a/\b≠T:=λb o e=>⟨(λz=>by rw[z,la] at e;cases e),λz=>by rw[z,lT] at e;cases e⟩
  refine I.call' (s':={ s' with heap:=h3 }) (ch:=[]) os ⟨λb o e n hb _=>?_,λb o e n hb hx=>?_,λb o e n hx=>?_,λb o e hx=>?_,λb xs e=>?_,λb o u e=>?_,λb ps e=>?_⟩ (λb o e=>?_) bare (λb z=>absurd z (by simp))
  . exact m1 b o hb (old b o e).1 (old b o e).2 (un.keep b o e n hb (by simp))
  . obtain⟨sl,e1⟩:=un.slot b o e n hb hx
    obtain⟨sl',e2⟩:=m2 b _ (old b o e).1 (old b o e).2 e1
    exact⟨sl',e2⟩
  . rw[aq (old b o e).1];exact un.free b o e n hx
  . obtain⟨o',e1⟩:=un.there b o e hx
    obtain⟨sl',e2⟩:=m2 b _ (old b o e).1 (old b o e).2 e1
    exact⟨_,e2⟩
  . have:=un.tups b xs e
    rw[aq (aJ this na)];exact this
  . have:=un.iT b o u e
    rw[aq (aJ this na)];exact this
  . obtain⟨more,this⟩:=un.iU b ps e
    exact⟨more,by rw[aq (aJ this na)];exact this⟩
  . by_cases hb:b=a
    . subst hb
      rw[aG] at e
      cases e
      obtain⟨oe,vs,he,hc,hdi,hda,_⟩:=t3.ex
      exact lq.ok ⟨oe,he,hc,hdi,vs,hda⟩
    . rw[aq hb] at e
      refine(hok b o e).stay (λc u hc r=>?_) (λc r=>by rw[aq (aJ r na)];exact r) λc xs r=>by rw[aq (aJ r na)];exact r
      have hc':∃v,H' c=some v:=by
       rcases hc with z|z
       . exact⟨o,by rw[z];exact e⟩
       . exact⟨_,z⟩
      obtain⟨v,hv⟩:=hc'
      refine m1 c u (λz=>?_) (aJ hv na) (aJ hv nT) r
      rw[I'.wA c z] at hv;cases hv
 exact q a C T1 dd H' h2 rfl na hE t2 (key h2 t2 λ_ _ _ e=>e) key
noncomputable def aeR (Ek:XK) (i:Nat) (tb ts:TS):TS:=λD σ H=>tb D σ H/\∀(a C:Addr) (dd:Option Addr) (H':Hp),H' a=none->Ek (.ref C) dd H'->ts (D.un i) (σ.set i (some (.ref a))) (upd H' a (lq a C dd))
theorem aeS {X:Cx}{body:List Stmt}{x n:Str}{Dc:Addr}{Ek:XK}{i:Nat}{b₀:Stmt}{suite:List Stmt}{np hpos pos:Pos}{tb ts:TS}(hst:X.stack=X.env::X.outer)(hfm:X.env.frame=some X.env.locals)
 (hb:U0 X Ek body tb) (hg:Gl X x) (hm:X.mg x=some (.ref Dc)) (h1:W.typeIn X.K (.ref Dc)=some (.type "type")) (h2:(W.clsIn X.K Dc).isSome=true) (h3:W.subIn X.K (.ref Dc) (.type "BaseException")=some true)
 (h4:∀C dd H,Ek (.ref C) dd H->W.subIn X.K (.ref C) (.ref Dc)=some true) (hN:X.N.Nodup) (hi:X.N[i]? =some n) (hlo:X.env.kindOf n=some .local) (hs:∀a,gU (X.marked a) (b₀::suite) ts) (hd:(x == ("__debug__":Str))=false:=by decide):
 PS X (.Try body [.ExceptHandler (some (.Name x np)) (some n) (b₀::suite) hpos] [] [] pos) (aeR Ek i tb ts):=by
 intro pins s σ H D I h
 obtain⟨hq,hk⟩:=h
 refine wpAny_Try_except (wpAny_mono (hb pins s σ H D I hq) (λf s1 q=>?_) λe s1 z=>?_)
 . cases f with
   |next=>exact wpAny_execs_nil q
   |ret v=>exact q
   |brk=>exact q
   |cont=>exact q
 . refine aeQ hst hfm z λa C T dd H' h2' e1 na hE t2 I2 key=>?_
   subst e1
   have ok:=I2.ok
   refine wpAny_handleBy_cons (codeAny_handlers_test ?_) (by intro q;cases q)
   refine rH (X:=X.marked a) (I2.marked a) hg hm ?_ hd
   obtain⟨oe,vs,he,hc,_⟩:=id t2.ex
   refine ael I2.eH h1 h2 h3 (h4 C dd H' hE) he hc ?_
   simp only[if_true]
   refine codeAny_handlers_suite_as ?_
   refine uR t2 λh3' t3 k3 _=>?_
   have I3:=key h3' t3 k3
   refine wC I3 hN hi (.inl hlo) (show RelV (.ref a) (.ref a) from rfl) (λs4 I4=>?_) (.inr hlo)
   refine wpAny_mono (hs a pins s4 _ _ (D.un i) (I4.marked a) (hk a C dd H' na hE)) (λf s5 q=>?_) λ_ _ z=>False.elim z
   show wpAny _ _ _ _ _ _
   cases f with
   |next=>
    obtain⟨σ',H5,I5,q⟩:=q
    exact(I5.unmarked ok).unbind hN hi hlo λs6 I6=>⟨_,_,I6,q⟩
   |ret v=>
    obtain⟨y,σ',H5,I5,r,q⟩:=q
    exact(I5.unmarked ok).unbind hN hi hlo λs6 I6=>⟨y,_,_,I6,r,q⟩
   |brk=>
    obtain⟨σ',H5,I5,q⟩:=q
    exact(I5.unmarked ok).unbind hN hi hlo λs6 I6=>⟨_,_,I6,q⟩
   |cont=>
    obtain⟨σ',H5,I5,q⟩:=q
    exact(I5.unmarked ok).unbind hN hi hlo λs6 I6=>⟨_,_,I6,q⟩
noncomputable def oM (a C:Addr):HO:=.ext λh=>∃o t,h.get? a=some o/\o.cls=.ref C/\o.dict=none/\o.data=.fields #[t,.none,.none,.none,.bool false,.none]
noncomputable def MadeX (a C dx:Addr):HO:=.ext λh=>∃o t,h.get? a=some o/\o.cls=.ref C/\o.dict=some dx/\o.data=.fields #[t,.none,.none,.none,.bool false,.none]
theorem oM.ok {P:Program}{w:World}{H:Hp}{h:Heap}{a C:Addr}(e:∃o t,h.get? a=some o/\o.cls=.ref C/\o.dict=none/\o.data=.fields #[t,.none,.none,.none,.bool false,.none]):eG P w H h a (oM a C):=
 ⟨e,let⟨o,t,h1,_⟩:=e;⟨o,h1⟩,λ_ _ ⟨o,t,h1,h2⟩ k=>⟨o,t,k o h1,h2⟩⟩
theorem MadeX.ok {P:Program}{w:World}{H:Hp}{h:Heap}{a C dx:Addr}(e:∃o t,h.get? a=some o/\o.cls=.ref C/\o.dict=some dx/\o.data=.fields #[t,.none,.none,.none,.bool false,.none]):eG P w H h a (MadeX a C dx):=
 ⟨e,let⟨o,t,h1,_⟩:=e;⟨o,h1⟩,λ_ _ ⟨o,t,h1,h2⟩ k=>⟨o,t,k o h1,h2⟩⟩
noncomputable def rem (H:Hp) (a:Addr):Hp:=λb=>if b=a then none else H b
theorem G8 {H:Hp}{a:Addr}:rem H a a=none:=if_pos rfl
theorem oN {H:Hp}{a b:Addr}(h:b≠a):rem H a b=H b:=if_neg h
section
variable {X:Cx}{pins:List (Addr × Obj)}{σ:St}{H:Hp}{s:Shared}
noncomputable def aeT (K:W.Frag) (ta tv:TE) (f:Str):TS:=λD σ H=>tv σ H λy H1=>ta σ H1 λx H2=>∃a C,x=.ref a/\H2 a=some (oM a C)/\qd K C f/\
 ∀dx,H2 dx=none->dx≠a->D.nx σ (upd (upd H2 dx (.xd [(f,y)])) a (MadeX a C dx))
theorem aeU {o value:Expr}{ta tv:TE}{f:Str}{pos pos':Pos}(ha:PE X o ta)(hv:PE X value tv)(hs:swapsWith value (some (.Attribute o f pos')) pos.line X.env=pure false):PS X (.Assign [.Attribute o f pos'] value pos) (aeT X.K ta tv f):=by
 intro pins s σ H D I h
 refine plainObj_wpAny_Assign_Attribute (aP (hv pins s σ H _ I h) λu s1 ⟨y,H1,I1,ry,q⟩=>aP (ha pins s1 σ H1 _ I1 q) λov s2 ⟨x,H2,I2,rx,a,C,ex,ea,Z,q2⟩=>?_) hs
 subst ex
 obtain rfl:ov=Value.ref a:=rx
 obtain⟨oe,t,he,hc,hdi,hda⟩:=(I2.hok a _ ea).1
 refine aeH I2.eH Z he hc hdi hda λh' tk' hn hx hk=>?_
 have hfr:H2 s2.heap.objs.size=none:=I2.hok.fresh (Nat.le_refl _)
 have hne:s2.heap.objs.size≠a:=(Nat.ne_of_lt (Heap.lt_size he)).symm
 have nea:∀b u,H2 b=some u->(∀C',u≠oM a C')->b≠a:=λb u e hu z=>by
  subst z
  rw[ea] at e
  exact hu C (Option.some.inj e).symm
 refine⟨σ,_,I2.call' (s':={ s2 with heap:=h',toks:=tk' }) (ch:=[]) rfl ⟨λb ob e n hb _=>?_,λb ob e n hb _=>?_,λb ob e n _=>?_,λb ob e _=>?_,λb xs e=>?_,λb ob u e=>?_,λb ps e=>?_⟩ (λb u e=>?_) I2.bare (λb z=>absurd z (by simp)),q2 s2.heap.objs.size hfr hne⟩
 . exact hk b ob (aJ ea n).symm e
 . exact⟨ob.slots,hk b ob (aJ ea n).symm e⟩
 . rw[aq (aJ ea n).symm,aq (Nat.ne_of_lt (Heap.lt_size e))];exact n
 . by_cases hb:b=a
   . subst hb;exact⟨_,hx⟩
   . exact⟨ob,hk b ob hb e⟩
 . have h1:b≠a:=λz=>by rw[z,ea] at e;cases e
   rw[aq h1,aq (aJ e hfr)];exact e
 . have h1:b≠a:=λz=>by rw[z,ea] at e;cases e
   rw[aq h1,aq (aJ e hfr)];exact e
 . have h1:b≠a:=λz=>by rw[z,ea] at e;cases e
   exact⟨#[],by rw[aq h1,aq (aJ e hfr),Array.append_empty];exact e⟩
 . by_cases h1:b=a
   . subst h1
     rw[aG] at e
     cases e
     exact MadeX.ok ⟨_,t,hx,hc,rfl,hda⟩
   . rw[aq h1] at e
     by_cases h2:b=s2.heap.objs.size
     . subst h2
       rw[aG] at e
       cases e
       refine⟨_,hn,λg=>?_⟩
       by_cases hg:g=f
       . subst hg
         rw[if_pos rfl]
         rw[List.lookup_cons,beq_self_eq_true]
         exact ry
       . rw[if_neg hg]
         rw[List.lookup_cons,beq_false_of_ne hg]
         trivial
     . rw[aq h2] at e
       refine(I2.hok b u e).stay (λc v hc' r=>hk c v ?_ r) (λc r=>?_) λc xs r=>?_
       . rintro rfl
         rcases hc' with z|z
         . exact h1 z.symm
         . rw[ea] at z;cases z
       . have n1:c≠a:=λz=>by rw[z,ea] at r;cases r
         rw[aq n1,aq (aJ r hfr)];exact r
       . have n1:c≠a:=λz=>by rw[z,ea] at r;cases r
         rw[aq n1,aq (aJ r hfr)];exact r
theorem Inv.aeV (I:Inv X pins σ H s){h':Heap}{e C:Addr}{us:List Value}(hm:Heap.MadeExcOf s.heap h' e (.ref C) us):H e=none/\Inv X pins σ (upd H e (oM e C)) { s with heap:=h' }:=by
 obtain⟨t,he,_,_⟩:=hm.there
 have hnew:s.heap.get? e=none:=hm.new
 have na:H e=none:=by
  cases q:H e with
  |none=>rfl
  |some o=>
   obtain⟨o',e'⟩:=(I.hok e o q).ex
   rw[hnew] at e';cases e'
 refine⟨na,I.call' (s':={ s with heap:=h' }) (ch:=[]) rfl ⟨λb ob e1 n hb _=>hm.keeps b ob e1,λb ob e1 n hb _=>⟨ob.slots,hm.keeps b ob e1⟩,λb ob e1 n _=>?_,λb ob e1 _=>⟨ob,hm.keeps b ob e1⟩,λb xs e1=>?_,λb ob u e1=>?_,λb ps e1=>?_⟩ (λb u e1=>?_) I.bare (λb z=>absurd z (by simp))⟩
 . rw[aq (λz=>by rw[z,hnew] at e1;cases e1)];exact n
 . rw[aq (aJ e1 na)];exact e1
 . rw[aq (aJ e1 na)];exact e1
 . exact⟨#[],by rw[aq (aJ e1 na),Array.append_empty];exact e1⟩
 . by_cases hb:b=e
   . subst hb
     rw[aG] at e1
     cases e1
     exact oM.ok ⟨_,_,he,rfl,rfl,rfl⟩
   . rw[aq hb] at e1
     refine(I.hok b u e1).stay (λc v _ r=>hm.keeps c v r) (λc r=>?_) λc xs r=>?_
     . rw[aq (aJ r na)];exact r
     . rw[aq (aJ r na)];exact r
noncomputable def U4 (X:Cx) (R:Addr->Addr->Hp->Prop):Prop:=∀(pins:List (Addr × Obj)) (σ:St) (H:Hp) (s:Shared) (a C dx:Addr),Inv X pins σ H s->X.s₀.heap.get? a=none->H a=some (MadeX a C dx)->R C dx (rem H a)->X.xe (.ref a) s
noncomputable def aeW (C:Addr) (sp:Sp) (R:Addr->Addr->Hp->Prop) (t:TA):TS:=λ_ σ H=>t σ H λvs H1=>vs.length<=sizeLine/\∀a,H1 a=none->sp (.ref a::vs) (upd H1 a (oM a C)) (λv H2=>v=.non/\∃dx,H2 a=some (MadeX a C dx)/\R C dx (rem H2 a)) E0
theorem Bp {x:Str}{C f:Addr}{fd:FuncData}{ps:List Str}{sp:Sp}{k:Nat}{B nid Bm:String}{g_:List Value}{e:Expr}{es:List Expr}{p cpos pos:Pos}{t:TA}{R:Addr->Addr->Hp->Prop}(hex:X.ex=[])(Z:p8 X.base C f g_ nid)(FB:ExcBaseFacts B nid Bm g_)(hkp:W.keepIn X.K (.ref C)=true)
 (F:aB X.prog X.w X.K X.mg X.base aO k f fd ps sp) (hr:cW (k+1) X.A) (hcl:X.calm=true) (hg:Gl X x) (hm:X.mg x=some (.ref C)) (hb:Binds X.K fd ps []) (hx:U4 X R)
 (ha:PA X (e::es) t) (hdb:(x == ("__debug__":Str))=false:=by decide) (he:starEach (e::es) X.env=(false,eval e X.env)::starEach es X.env:=by rfl) (hpl:(backTo cpos (starEach es X.env)).any (·.1)=false:=by rfl):
 PS X (.Raise (some (.Call (.Name x p) (e::es) [] cpos)) none pos) (aeW C sp R t):=by
 intro pins s σ H D I h
 rw[arm_exec_Raise]
 have key:wpAny (model X.prog X.w) X.A (eval (.Call (.Name x p) (e::es) [] cpos) X.env) (λv s1=>∃(e C:Addr) (oe:Obj) (t:Value) (r:Array Value),v=.ref e/\s1.heap.get? e=some oe/\oe.cls=.ref C/\oe.data=.fields #[t,.none,.none,.none,.bool false,.none]/\
  (∃tl N nm q bs hdct sn sub ab col dd k0 k1 k2 k3 k5 nid,s1.heap.get? C=some (excClassObj nm q C N bs tl hdct sn sub ab col dd k0 k1 k2 k3 k5 nid)/\tl.contains (.type "BaseException")=true)/\X.xe (.ref e) s1) X.xe s:=by
  refine wpAny_Call_Name_kw (rH I hg hm ?_ hdb)
  refine W.callWith_K (h₀:=X.base) I.ok.mod.pC hkp (aP (ha cpos pins s σ H _ I h) λus s1 ⟨vs,H1,I1,r,hl,q⟩=>⟨I1.eH,?_⟩) he hpl
  obtain⟨hp,g,d,tk,os⟩:=s1
  refine aeE FB (Z.keeps I1.bk) (λh' e' hm'=>?_) (by show us.length<=sizeLine;rw[<-r.length];exact hl)
  have l0:X.s₀.heap.get? e'=none:=I1.iG hex hm'.new
  obtain⟨na,I2⟩:=I1.aeV hm'
  have hq:=q e' na
  have r2:Vals (V.ref e'::vs) (Value.ref e'::us):=.cons rfl r
  have hlen:(Value.ref e'::us++[]).length=ps.length:=by
   rw[List.append_nil,<-r2.length];exact F.len _ _ _ _ hq
  have hbd:=hb _ (Value.ref e'::us) I2.eH hlen
  rw[List.append_nil] at hbd
  refine wpAny_call (codeAny_mono (F.run _ X.stack _ _ ⟨Value.ref e'::us,[]⟩ (Value.ref e'::us) _ _ E0 (hr.make C us []) (I2.env0.make C us []) hbd r2 hq) λr' s' hq'=>?_)
  cases r' with
  |error e=>exact False.elim hq'
  |ok fl=>
   cases fl with
   |ret u=>
    obtain⟨v,H',I3,rv,ev,dx,xO,hR⟩:=I2.after hq'
    subst ev
    obtain⟨oe,t',he',hc',hd',aeX⟩:=(I3.hok _ _ xO).1
    obtain⟨tl,N,nm,q,bs,hdct,sn,sub,ab,col,dd,k0,k1,k2,k3,k5,mN,oI,z1,z2,z3,z4,z5,z6⟩:=Z.keeps I3.bk
    exact⟨rv,⟨e',C,oe,t',#[],rfl,he',hc',aeX,⟨tl,N,nm,q,bs,hdct,sn,sub,ab,col,dd,k0,k1,k2,k3,k5,nid,z1,z4.hasType FB.hasBase⟩,hx pins σ H' s' e' C dx I3 l0 xO hR⟩⟩
   |next=>exact False.elim hq'
   |brk=>exact False.elim hq'
   |cont=>exact False.elim hq'
 exact wpAny_bind (wpAny_standAt (aeF (I.ok.hd hcl) (wpAny_bind (wpAny_mono key (λv s1 q=>wpAny_bind (wpAny_standAt (wpAny_pure q))) λ_ _ z=>z))))
theorem Inv.aeY (I:Inv X pins σ H s)(hex:X.ex=[]){a:Addr}{φ:Heap->Prop}(l0:X.s₀.heap.get? a=none)(ha:H a=some (.ext φ)):Un (frs X.outer) [] X.H₀ (rem H a) X.s₀.heap s.heap/\cQ X.prog X.w (rem H a) s.heap:=by
 have B:=I.base
 rw[hex] at B
 refine⟨⟨B.keep,B.slot,λb o e n hx=>?_,B.there,λb xs e=>?_,λb o u e=>?_,λb ps e=>?_⟩,λb u e=>?_⟩
 . rw[oN (λz=>by rw[z,l0] at e;cases e)];exact B.free b o e n hx
 . have:=B.tups b xs e
   rw[oN (λz=>by rw[z,ha] at this;cases this)];exact this
 . have:=B.iT b o u e
   rw[oN (λz=>by rw[z,ha] at this;cases this)];exact this
 . obtain⟨more,this⟩:=B.iU b ps e
   exact⟨more,by rw[oN (λz=>by rw[z,ha] at this;cases this)];exact this⟩
 . have nb:b≠a:=λz=>by rw[z,G8] at e;cases e
   rw[oN nb] at e
   refine(I.hok b u e).stay (λc v _ r=>r) (λc r=>?_) λc xs r=>?_
   . rw[oN (λz=>by rw[z,ha] at r;cases r)];exact r
   . rw[oN (λz=>by rw[z,ha] at r;cases r)];exact r
end
theorem G9 {H:Hp}{a b:Addr}(h:H b=none):rem H a b=none:=by
 unfold rem
 split
 . rfl
 . exact h
theorem Inv.rem {X:Cx}{pins:List (Addr × Obj)}{σ:St}{H:Hp}{s:Shared}(I:Inv X pins σ H s)(hex:X.ex=[]){a:Addr}{φ:Heap->Prop}(l0:X.s₀.heap.get? a=none)(ha:H a=some (.ext φ)):Inv X pins σ (L2.rem H a) s:=by
 obtain⟨un,hok⟩:=I.aeY hex l0 ha
 refine⟨I.ok,I.os,I.bare,by rw[hex];exact un,I.loc,I.cell,G9 I.free,λx c e=>G9 (I.gR x c e),λp hp=>?_,hok,I.len⟩
 obtain⟨h1,h2,h3⟩:=I.pin p hp
 exact⟨h1,G9 h2,h3⟩
theorem Bq {P:Program}{w:World}{K:W.Frag}{mg:Str->Option Value}{base:Heap}{N:List Str}{qual:Str}{scope:Scope}{f:Addr}{cd:Value}{A:Around}{outer:List Env}{s₀:Shared}{H₀:Hp}{E:XK}:
 U4 (fZ (bK P w) P w K mg base N qual scope f cd A outer s₀ H₀ E) (λC dx H=>E (.ref C) (some dx) H):=λpins σ H s a C dx I l0 xO hE=>by
 obtain⟨oe,t,he,hc,hdi,hda⟩:=(I.hok a _ xO).1
 have I':=I.rem rfl l0 xO
 show wpAny (model P w) _ (leaving _ _) _ _ _
 refine I'.aeO rfl rfl rfl he hc hdi hda rfl l0 G8 λh2 T' t' rW rY un' hok'=>?_
 exact⟨a,T',C,some dx,_,rfl,t',l0,rW,G8,rY,I'.os,I'.bare,un',hok',hE⟩
section
variable {X:Cx}
noncomputable def U5 (K:W.Frag) (ta:TE) (f:Str):TE:=λσ H Q=>ta σ H λx H1=>∃a C dx fs v,x=.ref a/\H1 a=some (lq a C (some dx))/\H1 dx=some (.xd fs)/\j4 K C/\qd K C f/\fs.lookup f=some v/\Q v H1
theorem aeZ {e:Expr}{ta:TE}{f:Str}{pos:Pos}(he:PE X e ta)(hb:attributeBase e f X.env (eval e X.env)=eval e X.env):PE X (.Attribute e f pos) (U5 X.K ta f):=by
 intro pins s σ H Q I h
 refine Sx hb (aP (he pins s σ H _ I h) λu s1 ⟨x,H1,I1,rx,a,C,dx,fs,v,ex,ea,ed,Z,Y,l,q⟩=>?_)
 subst ex
 obtain rfl:u=Value.ref a:=rx
 obtain⟨o,ho,hc,hdx,vs,hda⟩:=(I1.hok a _ ea).1
 obtain⟨mA,hn,hr⟩:=I1.hok dx _ ed
 obtain⟨u',hu,ru⟩:=lN.some_of (v:=v) (o:=mA f) (by rw[<-l];exact hr f)
 obtain⟨hp,g,d,tk,os⟩:=s1
 exact aeL I1.eH Z Y ho hc hda hdx hn.ns hu (W.handedOut_of (Sq ru)) ⟨v,H1,I1.tok _,ru,q⟩
theorem Br:lR X (.builtin "isinstance") (λxs H Q=>∃a C dd c cv b,xs=[.ref a,c]/\RelV c cv/\H a=some (lq a C dd)/\j4 X.K C/\W.kitOne X.K (.ref C) cv=some b/\Q (.bl b) H):=by
 intro pins s σ H xs us Q I r h
 obtain⟨a,C,dd,c,cv,b,rfl,rc,ha,Z,e,q⟩:=h
 obtain⟨u,c',rfl,ru,Bs⟩:=vals2 r
 cases ru
 have ec:c'=cv:=by
  cases c with
  |ref _=>exact Eq.trans (show c'=_ from Bs) (show cv=_ from rc).symm
  |ty _=>exact Eq.trans (show c'=_ from Bs) (show cv=_ from rc).symm
  |non=>exact Eq.trans (show c'=_ from Bs) (show cv=_ from rc).symm
  |bl _=>exact Eq.trans (show c'=_ from Bs) (show cv=_ from rc).symm
  |_=>
   obtain⟨t,rfl⟩:=rc
   unfold W.kitOne W.kitCls at e
   simp at e
 subst ec
 obtain⟨o,ho,hc,_⟩:=(I.hok a _ ha).1
 exact W.kia_one (aer Z) I.eH ⟨o,ho,hc⟩ e (by intro z;cases z) λtk=>⟨.bl b,H,I.tok tk,rfl,q⟩
end
section
variable {X:Cx}{k:Nat}{f C:Addr}{fd:FuncData}{ps:List Str}{sp:Sp}{Ek:XK}{m:Str}{p pos apos:Pos}{e o:Expr}{es:List Expr}{t:TA}{te ta:TE}
theorem U6 (he:PE X.ur e te):rZ X Ek e te:=λpins s σ H Q I h=>
 wpAny_mono (he pins s σ H Q (I.wish _) h) (λ_ _ ⟨v,H',I',r,q⟩=>⟨v,H',I'.m_,r,q⟩) λ_ _ z=>False.elim z
noncomputable def PAD (X:Cx) (Ek:XK) (es:List Expr) (t:TA):Prop:=
 ∀(pos:Pos) (pins:List (Addr × Obj)) (s:Shared) (σ:St) (H:Hp) (Q:List V->Hp->Prop),Inv X pins σ H s->t σ H Q->wpAny (model X.prog X.w) X.A (spliced (backTo pos (starEach es X.env))) (AP X pins σ Q) (xM X pins σ Ek) s
theorem U7:PAD X Ek [] gY:=λ_ _ _ _ H Q I h=>Calls.spliced_nil ⟨[],H,I,.nil,h⟩
theorem Bt (ha:rZ X Ek e te)(hr:PAD X Ek es t)(hs:starEach (e::es) X.env=(false,eval e X.env)::starEach es X.env:=by rfl):PAD X Ek (e::es) (iC te t):=by
 intro pos pins s σ H Q I h
 rw[hs]
 show wpAny _ _ (spliced ((false,eval e X.env)::backTo pos (starEach es X.env))) _ _ s
 refine Calls.spliced_cons (aP (ha pins s σ H _ I h) λu s1 ⟨x,H1,I1,r1,q1⟩=>?_)
 exact aP (hr pos pins s1 σ H1 _ I1 q1) λus s2 ⟨xs,H2,I2,r2,q2⟩=>⟨x::xs,H2,I2,.cons r1 r2,q2⟩
theorem U8 {x1:Nat}(h:PAD X Ek es t):rZ X Ek (.Tuple es x1 pos) (wK t):=by
 intro pins s σ H Q I hq
 refine wpAny_Tuple_spliced (aP (h pos pins s σ H _ I hq) λus s1 ⟨xs,H1,I1,r,z,q⟩=>⟨by rw[<-r.length];exact z,?_⟩)
 have hf:H1 s1.heap.objs.size=none:=I1.hok.fresh (Nat.le_refl _)
 exact⟨.ref s1.heap.objs.size,upd H1 s1.heap.objs.size (.tup xs),I1.laid (t':=s1.toks) (λb u e=>Heap.get?_push_of_some _ e) (Nat.le_refl _) ⟨z,us,r,⟨_,Heap.get?_push_size _ rfl,rfl,_,rfl⟩⟩,rfl,q _ hf⟩
end
noncomputable def hk (l:List Key) (q:Key):Bool:=l.any λx=>decide (x=q)
section
variable {prog:Program}{w:World}{A:Around}{R:Result->Shared->Prop}{I:Addr}{fp wr:List Addr}{G:Array GenState->Array GenState->Prop}{n:Nat}{Pp:Nat->Value->Prop}{St':Nat->Shared->Prop}
end
section
variable {X:Cx}
end
end L2
namespace L2
open PySem PySem.StrLaws PySem.Builtin PySem.Builtin.Str
theorem sub_one (s:Str)(c i:Nat):subAt s ⟨#[c]⟩ i=decide (s.cps.toList[i]? =some c):=by
 unfold subAt
 have e:s.cps.extract i (i+Str.length ⟨#[c]⟩)=((s.cps.toList.drop i).take 1).toArray:=by
  show s.cps.extract i (i+1)=_
  apply Array.ext'
  rw[Array.toList_extract,List.extract_eq_take_drop]
  simp
 rw[e]
 cases h:s.cps.toList[i]? with
 |none=>
  rw[List.drop_eq_nil_of_le (by rw[List.getElem?_eq_none_iff] at h;exact h)]
  rfl
 |some d=>
  obtain⟨hi,hd⟩:=List.getElem?_eq_some_iff.mp h
  rw[List.drop_eq_getElem_cons hi,hd]
  show(#[d] == #[c])=_
  simp
  rfl
theorem occ_first (s:Str)(c hi:Nat):∀(l:List Nat) (free:Nat),(∀i∈l,free<=i)->
 (forIn l ((#[]:Array Nat),free) (occBody s ⟨#[c]⟩ hi 1)).run.fst.toList=(l.find? λi=>decide (i+1<=hi) && decide (s.cps.toList[i]? =some c)).toList
 |[],free,_=>rfl
 |a::l,free,hf=>by
  rw[List.forIn_cons]
  unfold occBody
  have ha:free<=a:=hf a List.mem_cons_self
  by_cases hc:a+1<=hi/\s.cps.toList[a]? =some c
  . rw[if_pos (⟨⟨⟨by simp,ha⟩,hc.1⟩,by rw[sub_one];exact decide_eq_true hc.2⟩)]
    rw[List.find?_cons_of_pos (by rw[decide_eq_true hc.1,decide_eq_true hc.2];rfl)]
    have full:∀(l:List Nat) (fr:Nat),(forIn l ((#[a]:Array Nat),fr) (occBody s ⟨#[c]⟩ hi 1)).run.fst=#[a]:=by
     intro l
     induction l with
     |nil=>intro fr;rfl
     |cons b l ih=>
      intro fr
      rw[List.forIn_cons]
      unfold occBody
      rw[if_neg (by rintro⟨⟨⟨h,_⟩,_⟩,_⟩;exact absurd h (by simp))]
      exact ih fr
    show(forIn l ((#[a]:Array Nat),_) (occBody s ⟨#[c]⟩ hi 1)).run.fst.toList=_
    rw[full];rfl
  . rw[if_neg (by rintro⟨⟨_,h1⟩,h2⟩;rw[sub_one] at h2;exact hc ⟨h1,of_decide_eq_true h2⟩)]
    rw[List.find?_cons_of_neg (by
     intro h
     rw[Bool.and_eq_true] at h
     exact hc ⟨of_decide_eq_true h.1,of_decide_eq_true h.2⟩)]
    exact occ_first s c hi l free λi hi=>hf i (List.mem_cons_of_mem _ hi)
theorem ae0 (s:Str)(c lo:Nat)(hlo:lo<=s.length):Txt.find3 s ⟨#[c]⟩ lo=if((s.cps.toList.drop lo).takeWhile λd=>d != c).length=(s.cps.toList.drop lo).length then -1 else((lo+((s.cps.toList.drop lo).takeWhile λd=>d != c).length:Nat):Int):=by
 have hfi:fromIndex s.length (lo:Int)=lo:=by
  unfold fromIndex
  rw[if_neg (by omega)]
  omega
 unfold Txt.find3
 rw[hfi,occ_eq,occ_first _ _ _ _ _ (λi h=>by rw[List.mem_range'] at h;obtain⟨k,_,rfl⟩:=h;omega)]
 have hlen:s.cps.toList.length=s.length:=Array.length_toList
 have key:∀(r:List Nat) (p:Nat),s.cps.toList.drop p=r->p+r.length=s.length->((List.range' p (s.length+1 - p)).find? λi=>decide (i+1<=s.length) && decide (s.cps.toList[i]? =some c))=if(r.takeWhile λd=>d != c).length=r.length then none else some (p+(r.takeWhile λd=>d != c).length):=by
  intro r
  induction r with
  |nil=>
   intro p hr hp
   have:s.length+1 - p=1:=by simp at hp;omega
   rw[this]
   simp at hp
   rw[List.find?_eq_none.mpr (by
    intro x hx
    rw[List.mem_range'] at hx
    obtain⟨k,hk,rfl⟩:=hx
    rw[decide_eq_false (by omega),Bool.false_and];decide)]
   simp
  |cons d r ih=>
   intro p hr hp
   have hpl:p<s.length:=by rw[List.length_cons] at hp;omega
   have hd:s.cps.toList[p]? =some d:=by
    have:=congrArg List.head? hr
    rw[List.head?_drop] at this
    exact this
   have hr':s.cps.toList.drop (p+1)=r:=by
    have:=congrArg List.tail hr
    rw[List.tail_drop] at this
    exact this
   have hs:s.length+1 - p=(s.length+1 - (p+1))+1:=by omega
   rw[hs,List.range'_succ]
   by_cases e:d=c
   . rw[List.find?_cons_of_pos (by rw[decide_eq_true (show p+1<=s.length by omega),hd,e,decide_eq_true rfl];rfl)]
     rw[List.takeWhile_cons_of_neg (by rw[e];simp),if_neg (by simp)];rfl
   . rw[List.find?_cons_of_neg (by rw[hd,decide_eq_false (show ¬some d=some c by intro z;injection z with z;exact e z),Bool.and_false];decide)]
     rw[ih (p+1) hr' (by rw[List.length_cons] at hp;omega),List.takeWhile_cons_of_pos (by rw[bne_iff_ne];exact e)]
     rw[List.length_cons,List.length_cons]
     by_cases z:(r.takeWhile λd=>d != c).length=r.length
     . rw[if_pos z,if_pos (by omega)]
     . rw[if_neg z,if_neg (by omega)]
       congr 1
       omega
 rw[key (s.cps.toList.drop lo) lo rfl (by rw[List.length_drop,hlen];omega)]
 by_cases z:((s.cps.toList.drop lo).takeWhile λd=>d != c).length=(s.cps.toList.drop lo).length
 . rw[if_pos z,if_pos z];rfl
 . rw[if_neg z,if_neg z];rfl
end L2
namespace L2
open PySem PySem.NumText
theorem U9:∀(fs:List Nat) (a:Array Nat) (b:Bool),(∀c∈fs,48<=c/\c<=57)->∃ds,fs.foldlM (NumText.step 10) (a,b)=some (ds,if fs=[] then b else true)
 |[],a,b,_=>⟨a,rfl⟩
 |c::fs,a,b,h=>by
  obtain⟨h1,h2⟩:=h c List.mem_cons_self
  obtain⟨ds,e⟩:=U9 fs (a.push (c - 48)) true λd hd=>h d (List.mem_cons_of_mem _ hd)
  refine⟨ds,?_⟩
  have hs:NumText.step 10 (a,b) c=some (a.push (c - 48),true):=by
   unfold NumText.step
   rw[if_neg (by simp;omega)]
   have hd:digit? c=some (c - 48):=by
    unfold digit?
    rw[if_pos (by simp;omega)]
   rw[hd]
   show(if c - 48<10 then _ else _)=_
   rw[if_pos (by omega)]
  rw[List.foldlM_cons,hs]
  show fs.foldlM (NumText.step 10) (a.push (c - 48),true)=_
  rw[e,if_neg (List.cons_ne_nil c fs)]
  simp
theorem int_text {x:Str}{sg:Bool}{fs:List Nat}(hx:x.cps.toList=(if sg then [45] else [])++fs)(hf:∀c∈fs,48<=c/\c<=57)(h0:fs≠[])(h6:fs.length<=640):(intText? x).isSome=true:=by
 have hall:x.cps.all (· <128)=true:=by
  rw[<-Array.all_toList,hx,List.all_append,Bool.and_eq_true]
  constructor
  . cases sg <;> rfl
  . rw[List.all_eq_true]
    intro c hc
    have:=hf c hc
    exact decide_eq_true (by omega)
 have ht:numTextOf x=(if sg then [45] else [])++fs:=by
  show(if x.cps.all (· <128)=true then x.cps.toList else _)=_
  rw[if_pos hall,hx]
 have hne:∀c∈(if sg then [45] else [])++fs,(c != 0)=true:=by
  intro c hc
  rw[List.mem_append] at hc
  rcases hc with hc|hc
  . cases sg
    . cases hc
    . rw[List.mem_singleton.mp hc];rfl
  . have:=hf c hc
    rw[bne_iff_ne];omega
 have hs:numSeenOf x=(if sg then [45] else [])++fs:=by
  show(numTextOf x).takeWhile (· != 0)=_
  rw[ht]
  have:=List.takeWhile_append_of_pos (p:=(· != 0)) (l₁:=(if sg then [45] else [])++fs) (l₂:=[]) hne
  rw[List.append_nil] at this
  rw[this];simp
 have nb:∀c,(48<=c/\c<=57)->blank c=false:=by
  intro c h
  unfold blank
  rw[Bool.or_eq_false_iff,Bool.and_eq_false_iff]
  refine⟨by simp;omega,?_⟩
  right
  exact decide_eq_false (by omega)
 have hdw:((if sg then [45] else [])++fs).dropWhile blank=(if sg then [45] else [])++fs:=by
  cases sg with
  |true=>rfl
  |false=>
   cases fs with
   |nil=>rfl
   |cons c fs=>exact List.dropWhile_cons_of_neg (by rw[nb c (hf c List.mem_cons_self)];decide)
 have hsg:(sign ((if sg then [45] else [])++fs)).2=fs:=by
  cases sg with
  |true=>rfl
  |false=>
   cases fs with
   |nil=>exact absurd rfl h0
   |cons c fs=>
    have:=hf c List.mem_cons_self
    show(sign (c::fs)).2=c::fs
    unfold sign
    split
    . rename_i e;injection e with e _;omega
    . rename_i e;injection e with e _;omega
    . rfl
 have ae1:core ((if sg then [45] else [])++fs)=fs:=by
  unfold core
  rw[hdw,hsg]
  have:fs.reverse.dropWhile blank=fs.reverse:=by
   cases e:fs.reverse with
   |nil=>rfl
   |cons c r=>
    exact List.dropWhile_cons_of_neg (by rw[nb c (hf c (by rw[<-List.mem_reverse,e];exact List.mem_cons_self))];decide)
  rw[this,List.reverse_reverse]
 obtain⟨ds,hd⟩:=U9 fs #[] false hf
 rw[if_neg h0] at hd
 have hdg:digits? 10 fs=some ds:=by
  unfold digits?
  rw[hd];rfl
 unfold intText?
 rw[hs,ht,if_pos (by simp),ae1,hdg]
 have hz:=digits_size hdg
 show(if ds.size<=4300 then some _ else none).isSome=true
 rw[if_pos (by omega)];rfl
end L2
namespace L2
open PySem
end L2
namespace L2
open PySem PySem.Builtin PySem.Builtin.Str
theorem G_ (x:List Nat):∀(k a:Nat),a+k<=x.length->((List.range k).map λi=>a+i).filterMap (x[·]?)=(x.drop a).take k
 |0,a,_=>by simp
 |k+1,a,h=>by
  rw[List.range_succ_eq_map,List.map_cons,List.filterMap_cons]
  have h1:x[a+0]? =some (x[a]'(by omega)):=List.getElem?_eq_getElem (by omega)
  rw[h1]
  have ih:=G_ x k (a+1) (by omega)
  rw[List.drop_eq_getElem_cons (show a<x.length by omega),List.take_succ_cons,<-ih,List.map_map]
  have e:(List.range k).map ((λi=>a+i) ∘ Nat.succ)=(List.range k).map λi=>a+1+i:=List.map_congr_left λi _=>by
   show a+(i+1)=a+1+i
   omega
  rw[e]
theorem ae2 (x:Str)(l u:Option Nat):(Txt.slice x (l.map Int.ofNat) (u.map Int.ofNat)).cps.toList=(x.cps.toList.take (u.getD x.length)).drop (l.getD 0):=by
 have hlen:x.cps.toList.length=x.length:=Array.length_toList
 have hidx:strSliceIndices (l.map Int.ofNat) (u.map Int.ofNat) 1 x.length=(List.range (min (u.getD x.length) x.length - min (l.getD 0) x.length)).map λi=>min (l.getD 0) x.length+i:=by
  unfold strSliceIndices
  have c1:∀(o:Option Nat) (d:Nat),d<=x.length->(match o.map Int.ofNat with|none=>(d:Int)|some i=>max 0 (min (if i<0 then i+(x.length:Int) else i) (x.length:Int)))=((min (o.getD d) x.length:Nat):Int):=by
   intro o d hd
   cases o with
   |none=>show(d:Int)=((min d x.length:Nat):Int);rw[Nat.min_eq_left hd]
   |some i=>
    show max 0 (min (if(Int.ofNat i)<0 then _ else Int.ofNat i) (x.length:Int))=((min i x.length:Nat):Int)
    rw[if_neg (by simp)]
    show max 0 (min (i:Int) (x.length:Int))=_
    omega
  have e1:=c1 l 0 (Nat.zero_le _)
  have e2:=c1 u x.length (Nat.le_refl _)
  have hs:(1:Int) > 0:=by decide
  have E:sliceRange (match l.map Int.ofNat with|none=>((0:Nat):Int)|some i=>max 0 (min (if i<0 then i+(x.length:Int) else i) (x.length:Int))) (match u.map Int.ofNat with|none=>(x.length:Int)|some i=>max 0 (min (if i<0 then i+(x.length:Int) else i) (x.length:Int))) 1=sliceRange ((min (l.getD 0) x.length:Nat):Int) ((min (u.getD x.length) x.length:Nat):Int) 1:=by rw[e1,e2]
  refine Eq.trans (by cases l <;> cases u <;> rfl) (Eq.trans E ?_)
  unfold sliceRange
  simp only[hs,if_true]
  generalize min (l.getD 0) x.length=a
  generalize min (u.getD x.length) x.length=b
  have hc:(if(a:Int)<(b:Int) then((b:Int) - (a:Int)+1 - 1) / 1 else 0).toNat=b - a:=by
   split
   . rw[Int.ediv_one];omega
   . show(0:Int).toNat=_;omega
  rw[hc]
  apply List.map_congr_left
  intro i _
  omega
 have hval:((strSliceIndices (l.map Int.ofNat) (u.map Int.ofNat) 1 x.length).filterMap (x.cps[·]?))=(x.cps.toList.take (u.getD x.length)).drop (l.getD 0):=by
  rw[hidx]
  have:=G_ x.cps.toList (min (u.getD x.length) x.length - min (l.getD 0) x.length) (min (l.getD 0) x.length)
  have e:(λi:Nat=>x.cps[i]?)=λi=>x.cps.toList[i]? :=by funext i;simp
  rw[e]
  rcases Nat.le_total (min (l.getD 0) x.length) (min (u.getD x.length) x.length) with h|h
  . rw[this (by rw[hlen];omega)]
    apply List.ext_getElem?
    intro i
    rw[List.getElem?_take,List.getElem?_drop,List.getElem?_drop,List.getElem?_take]
    by_cases c1:l.getD 0+i<x.length
    . by_cases c2:l.getD 0+i<u.getD x.length
      . rw[if_pos (by omega),if_pos c2];congr 1;omega
      . rw[if_neg (by omega),if_neg c2]
    . have n1:∀j,x.length<=j->x.cps.toList[j]? =none:=λj hj=>List.getElem?_eq_none_iff.mpr (by omega)
      rw[n1 (l.getD 0+i) (by omega)]
      split
      . rw[n1 _ (by omega)];split <;> rfl
      . split <;> rfl
  . rw[show min (u.getD x.length) x.length - min (l.getD 0) x.length=0 by omega]
    show []=_
    symm
    apply List.drop_eq_nil_of_le
    rw[List.length_take,hlen];omega
 unfold Txt.slice
 split
 . rename_i h
   have hl:(strSliceIndices (l.map Int.ofNat) (u.map Int.ofNat) 1 x.length).length=x.length:=by
    rw[Bool.and_eq_true] at h
    exact of_decide_eq_true (by simpa using h.2)
   rw[<-hval,hidx]
   rw[hidx,List.length_map,List.length_range] at hl
   have e:(λi:Nat=>x.cps[i]?)=λi=>x.cps.toList[i]? :=by funext i;simp
   rw[e,hl]
   rcases Nat.eq_zero_or_pos x.length with z|z
   . rw[z]
     have:x.cps.toList=[]:=List.length_eq_zero_iff.mp (by rw[hlen];exact z)
     rw[this];rfl
   . have h0:min (l.getD 0) x.length=0:=by omega
     rw[h0,G_ _ _ _ (by omega),List.drop_zero,List.take_of_length_le (by omega)]
 . exact hval
end L2
namespace L2
open PySem PySem.Spec PyProof.Rows
section
variable {X:Cx}
theorem U_:dJ X (compareOp .GtE) (λx y H Q=>∃i j,x=.str i/\y=.str j/\Q (.bl (!decide (i.cps.toList<j.cps.toList))) H):=by
 intro pins s σ H x y v u Q I rx ry h
 obtain⟨i,j,rfl,rfl,q⟩:=h
 obtain⟨t,rfl⟩:=rx
 obtain⟨t',rfl⟩:=ry
 exact PySem.P.ge_str (cR I q rfl)
theorem Va:dJ X (compareOp .LtE) (λx y H Q=>∃i j,x=.str i/\y=.str j/\Q (.bl (!decide (j.cps.toList<i.cps.toList))) H):=by
 intro pins s σ H x y v u Q I rx ry h
 obtain⟨i,j,rfl,rfl,q⟩:=h
 obtain⟨t,rfl⟩:=rx
 obtain⟨t',rfl⟩:=ry
 exact PySem.P.le_str (cR I q rfl)
theorem Vb {a b:Nat}:(([a]:List Nat)<[b])↔a<b:=by
 rw[List.cons_lt_cons_iff]
 simp
theorem ae3:Aq X "str.find" (λx vs H Q=>∃z y,∃i:Int,x=.str z/\vs=[.str y,.int i]/\Q (.int (Txt.find3 z y i)) H):=by
 intro pins s σ H x vs v us Q I rx rv h
 obtain⟨z,y,i,rfl,rfl,q⟩:=h
 obtain⟨t,rfl⟩:=rx
 obtain⟨u1,u2,rfl,r1,r2⟩:=vals2 rv
 obtain⟨t1,rfl⟩:=r1
 obtain⟨t2,rfl⟩:=r2
 exact SC.find3 ⟨.int _,H,I.tok _,⟨_,rfl⟩,q⟩
theorem ae4:lR X (.type "int") (λxs H Q=>∃z n,xs=[.str z]/\z.length<=640/\intText? z=some n/\Q (.int n) H):=by
 intro pins s σ H xs us Q I r h
 obtain⟨z,n,rfl,hl,hn,q⟩:=h
 obtain⟨u,rfl,t,rfl⟩:=vals1 r
 exact W.KIN.call_text hn hl ⟨.int n,H,I.tok _,⟨_,rfl⟩,q⟩
end
variable {P:Program}{w:World}{K:W.Frag}{mg:Str->Option Value}{base:Heap}
noncomputable def Bu (tabs:List Addr) (H:Hp):Prop:=∀b,H b=none\/(∃o xs,H b=some (.kY o (.lst xs)))\/(b∈tabs/\H b=some (.eF #[]))
theorem ae5 {P:Program}{w:World}{K:W.Frag}{mg mb:Str->Option Value}{CX:iW}{k:Nat}{fa a:Addr}{fd:FuncData}{x:Str}{sp:Sp}{s₁:Shared}{vs:List Value}{ns:List Int}{tabs:List (Addr × Addr)}
 (KX:K.In s₁.heap) (hT:W.TabsAt tabs s₁.heap) (nA:W.noTabs K=true) (hbm:BM mg s₁.heap) (hns:s₁.heap.Ns mainGlobals mg) (hb:s₁.heap.Ns builtinsNs mb) (hbb:∀x:Str,x≠"__name__"->mb x=bootBuiltins x) (hlim:s₁.heap.NoLimit) (hg:s₁.gens=#[])
 (ha:s₁.heap.get? a=some { cls:=.type "list",data:=.seq vs.toArray }) (hi:IntsAre vs ns) (hl:ns.length<=sizeLine) (hr:cW k callerA)
 (F:∀base:Heap,K.In base->base.Ns mainGlobals mg->BM mg base->aB P w K mg base CX k fa fd [x] sp) (hbind:∀(s:Shared) (u:Value),BindsTo s fd ⟨[u],[]⟩ [(x,u)])
 (hsp:∀H:Hp,Bu (tabs.map (·.2)) H->(∀q∈tabs,H q.2=some (.eF #[]))->aL K H a (ns.map V.int)->sp [.ref a] H (λv _=>v=.bl true) λ_ _ _=>False)
 (hCX:∀H e s',CX [] H s₁ (λ_ _ _=>False) e s'->False):
 codeAny (model P w) callerA (.call (.ref fa) ⟨[.ref a],[]⟩) (λr s'=>r=.ok (.ret (.bool true))/\OldK s₁.heap s'.heap/\s'.os=s₁.os/\AllBare s'.gens) s₁:=by
 have rv:=TQ hi
 have lenV:=hi.length
 have uT:∀b,b∈tabs.map (·.2)->s₁.heap.get? b=some (W.tabObj #[]):=λb hm=>by
  obtain⟨q,hq,rfl⟩:=List.mem_map.mp hm
  exact(hT q hq).2
 have Vc:a ∉ tabs.map (·.2):=λhm=>by
  have:=uT a hm
  rw[ha] at this;cases this
 have core:∀H:Hp,Bu (tabs.map (·.2)) H->(∀q∈tabs,H q.2=some (.eF #[]))->aL K H a (ns.map V.int)->cQ P w H s₁.heap->(∀b,H b≠none->b=a\/b∈tabs.map (·.2))->(H a≠none->K.lookup a=none)->
  codeAny (model P w) callerA (.call (.ref fa) ⟨[.ref a],[]⟩) (λr s'=>r=.ok (.ret (.bool true))/\OldK s₁.heap s'.heap/\s'.os=s₁.os/\AllBare s'.gens) s₁:=by
  intro H hO hPt hS hok hA hK
  have Hf:∀{b:Addr} {o:Obj},s₁.heap.get? b=some o->H b=none->(m9 s₁.heap H).get? b=some o:=λe n=>ab6 e n
  have other:∀{b:Addr} {o:Obj},s₁.heap.get? b=some o->(∀us n,o.data≠ .seq us n)->(∀us,o.data≠ .fields us)->H b=none:=λ{b o} e d1 d2=>by
   cases q:H b with
   |none=>rfl
   |some u=>
    rcases hA b (by rw[q];simp) with e'|e'
    . subst e'
      rw[ha] at e;cases e
      exact absurd rfl (d1 _ _)
    . rw[uT b e'] at e;cases e
      exact absurd rfl (d2 _)
  have Bv:∀{b:Addr} {m:Str->Option Value},s₁.heap.Ns b m->(m9 s₁.heap H).Ns b m:=λ{b m} ⟨o,es,ep,e,d,r⟩=>⟨o,es,ep,Hf e (other e (by rw[d];intro us n z;cases z) (by rw[d];intro us z;cases z)),d,r⟩
  have Vd:K.In (m9 s₁.heap H):=λb o e=>Hf (KX b o e) (by
   cases q:H b with
   |none=>rfl
   |some u=>
    rcases hA b (by rw[q];simp) with e'|e'
    . subst e'
      rw[hK (by rw[q];simp)] at e;cases e
    . have e2:=KX b o e
      rw[uT b e'] at e2;cases e2
      have:=List.all_eq_true.mp nA _ (W.mem_of_lookupK e)
      simp at this)
  have hM:Mod K mg (m9 s₁.heap H):=⟨Vd,Bv hns,⟨mb,Bv hb,hbb⟩,let⟨mc,h1,h2⟩:=hlim;⟨mc,Bv h1,h2⟩⟩
  have xP:BM mg (m9 s₁.heap H):=by
   obtain⟨bm,o,b1,b2,b3,b4,b5,b6,b7⟩:=hbm
   exact⟨bm,o,b1,b2,b3,Hf b4 (other b4 (by rw[b7];intro us n z;cases z) (by rw[b7];intro us z;cases z)),b5,b6,b7⟩
  have e0:rP P w K mg (m9 s₁.heap H) callerA [] s₁ H:=⟨rfl,hM,λb o e=>ab7 e,Nat.le_of_eq (ab5 _ _),trivial,λb hb=>absurd (show b∈([]:List Addr) from hb) (by simp),hok,.of_eq hg⟩
  refine codeAny_mono ((F _ Vd (Bv hns) xP).run callerA [] s₁ H ⟨[.ref a],[]⟩ [.ref a] [.ref a] _ _ hr e0 (hbind s₁ (.ref a)) (.cons rfl .nil) (hsp H hO hPt hS)) λr s' h=>?_
  cases r with
  |error e=>exact(hCX H e s' h).elim
  |ok fl=>
   cases fl with
   |next=>exact False.elim h
   |brk=>exact False.elim h
   |cont=>exact False.elim h
   |ret u=>
    obtain⟨v,H',os,bare,un,hok',r',q⟩:=h
    have q':v=.bl true:=q
    subst q'
    obtain rfl:u=Value.bool true:=r'
    have grown:∀b,b∈tabs.map (·.2)->∃ps,s'.heap.get? b=some (W.tabObj ps):=λb hm=>by
     obtain⟨q,hq,rfl⟩:=List.mem_map.mp hm
     obtain⟨more,e⟩:=un.iU _ _ (hPt q hq)
     exact⟨_,hok' _ _ e⟩
    have keep:∀b o,b ∉ tabs.map (·.2)->s₁.heap.get? b=some o->s'.heap.get? b=some o:=λb o hb e=>by
     cases q:H b with
     |none=>exact un.keep b o e q (by intro z;exact absurd (show b∈([]:List Addr) from z) (by simp)) (by simp)
     |some u=>
      rcases hO b with z|⟨ob,xs,z⟩|⟨z,_⟩
      . rw[q] at z;cases z
      . have z2:=un.iT b ob _ z
        obtain⟨e1,_⟩:=hok b _ z
        obtain⟨e2,_⟩:=hok' b _ z2
        rw[e] at e1;cases e1
        exact e2
      . exact absurd z hb
    refine⟨rfl,⟨λb o e=>?_,λb o e=>?_⟩,os,bare⟩
    . by_cases hb:b∈tabs.map (·.2)
      . obtain⟨ps,hP⟩:=grown b hb
        have e2:=uT b hb
        rw[e] at e2;cases e2
        obtain⟨q,hq,rfl⟩:=List.mem_map.mp hb
        exact .inr (.inl ⟨((hT q hq).1.tab (hT q hq).2).isCodeTable,rfl,#[],ps,rfl,by rw[Array.empty_append];exact hP⟩)
      . exact .inl (keep b o hb e)
    . by_cases hb:b∈tabs.map (·.2)
      . obtain⟨ps,hP⟩:=grown b hb
        exact⟨_,hP⟩
      . exact⟨o,keep b o hb e⟩
 cases hk:K.lookup a with
 |some o=>
  have e:=KX a o hk
  rw[ha] at e
  cases e
  refine core (λb=>if b∈tabs.map (·.2) then some (.eF #[]) else none) (λb=>?_) (λq hq=>if_pos (List.mem_map_of_mem hq)) (.inr ⟨_,vs.toArray,_,hk,rfl,rfl,rfl,by rw[List.size_toArray,lenV];exact hl,by simpa using rv⟩) (λb u z=>?_) (λb z=>?_) λz=>absurd (if_neg Vc) z
  . by_cases hb:b∈tabs.map (·.2)
    . exact .inr (.inr ⟨hb,if_pos hb⟩)
    . exact .inl (if_neg hb)
  . by_cases hb:b∈tabs.map (·.2)
    . have z':=(if_pos hb).symm.trans z
      cases z'
      exact uT b hb
    . have z':=(if_neg hb).symm.trans z
      cases z'
  . by_cases hb:b∈tabs.map (·.2)
    . exact .inr hb
    . exact absurd (if_neg hb) z
 |none=>
  refine core (λb=>if b∈tabs.map (·.2) then some (.eF #[]) else if b=a then some (.kY { cls:=.type "list",data:=.seq vs.toArray } (.lst (ns.map V.int))) else none) (λb=>?_) (λq hq=>if_pos (List.mem_map_of_mem hq))
   (.inl (.inr ⟨{ cls:=.type "list",data:=.seq vs.toArray },(if_neg Vc).trans (if_pos rfl)⟩)) (λb u z=>?_) (λb z=>?_) λ_=>hk
  . by_cases hb:b∈tabs.map (·.2)
    . exact .inr (.inr ⟨hb,if_pos hb⟩)
    . by_cases hba:b=a
      . exact .inr (.inl ⟨_,_,(if_neg hb).trans (if_pos hba)⟩)
      . exact .inl ((if_neg hb).trans (if_neg hba))
  . by_cases hb:b∈tabs.map (·.2)
    . have z':=(if_pos hb).symm.trans z
      cases z'
      exact uT b hb
    . have z:=(if_neg hb).symm.trans z
      by_cases hba:b=a
      . have z':=(if_pos hba).symm.trans z
        cases z'
        subst hba
        exact⟨ha,by rw[List.length_map];exact hl,vs,_,rv,ha⟩
      . have z':=(if_neg hba).symm.trans z
        cases z'
  . by_cases hb:b∈tabs.map (·.2)
    . exact .inr hb
    . by_cases hba:b=a
      . exact .inl hba
      . exact absurd ((if_neg hb).trans (if_neg hba)) z
theorem ae7 {l:W.OpenLaw}{n k:Nat}{q:Program}{loose:List Str}{XP:(Str->Option Value)->Heap->Prop}{YP:World->Heap->Prop}{d:DefRec}{K:Params->W.Frag}{sp:World->List (Addr × Addr)->Sp}{x:Str}{names:List Str}
 (hn:l.most=some n) (hn2:n<=sizeLine) (hdf:d.params.defaults=[]) (hr:cW k callerA)
 (hY:∀(w:World) (h:Heap),YP w h->(K w.params).In h) (nA:∀w:World,W.noTabs (K w.params)=true)
 (tb:∀w:World,∃tabs:List (Addr × Addr),(∀q'∈tabs,∃y∈names,W.tabIn (K w.params) y=some q')/\
   (∀(mg:Str->Option Value) (fa:Addr) (h:Heap),(K w.params).In h->h.Ns mainGlobals mg->mg d.name=some (.ref fa)->
   ∃fd:FuncData,(∀(s:Shared) (u:Value),BindsTo s fd ⟨[u],[]⟩ [(x,u)])/\
    ∀base:Heap,(K w.params).In base->base.Ns mainGlobals mg->BM mg base->aB l.prog w (K w.params) mg base aO k fa fd [x] (sp w tabs)))
 (hrec:∀y∈names,∃d',(recsOf q).find? (λe=>e.name == y)=some d')
 (hsp:∀(w:World) (tabs:List (Addr × Addr)) (H:Hp) (a:Addr) (ns:List Int),ns.length<=n->Bu (tabs.map (·.2)) H->(∀q∈tabs,H q.2=some (.eF #[]))->aL (K w.params) H a (ns.map V.int)->sp w tabs [.ref a] H (λv _=>v=.bl true) λ_ _ _=>False):
 W.WalkO q loose XP YP l.row.toRowW d [] (λf vs=>PySem.call f vs):=by
 refine TJ.adH hn hdf λw s₀ s₁ mg mb fa o pm cd doc a vs ns G Y ho hd hcd hmg hobj hints hlen hg=>?_
 have KX:=hY w _ Y
 obtain⟨tabs,ht,F⟩:=tb w
 obtain⟨fd,hb,hF⟩:=F mg fa _ KX G.T.g hmg
 have hT:W.TabsAt tabs s₁.heap:=λq' hq=>by
  obtain⟨y,hy,hty⟩:=ht q' hq
  obtain⟨d',hd'⟩:=hrec y hy
  exact W.tab_of G.T KX hd' hty
 have hbm:BM mg s₁.heap:=by
  obtain⟨bm,ob,b1,b2,b3,b4,b5,b6⟩:=G.T.bmain
  refine⟨bm,ob,b1,b2,λz=>?_,b3,b4,b5,b6⟩
  obtain⟨o',es,ep,e,hd,_⟩:=G.T.g
  rw[z,e] at b3;cases b3
  rw[hd] at b6;cases b6
 exact ae5 KX hT (nA w) hbm G.T.g G.T.b G.T.builtins G.T.nolimit hg hobj hints (Nat.le_trans hlen hn2) hr hF hb (λH hO hP hS=>hsp w tabs H a ns hlen hO hP hS) λH e s' h=>h.elim
end L2
namespace Pb
open PySem L2 PyProof.Rows
mutual
inductive Kd where
 |num
 |bQ
 |bW (fs:Fs)
 |rows (key by_:Str) (fs:Fs)
 |tree (k:Kd)
 |bV (fs:Fs)
inductive Fs where
 |nil
 |cons (x:Str) (k:Kd) (r:Fs)
end
mutual
noncomputable def Kd.dep:Kd->Nat
 | .num=>1
 | .bQ=>1
 | .bW fs=>fs.dep+1
 | .rows _ _ fs=>fs.dep+1
 | .tree k=>k.dep+1
 | .bV fs=>fs.dep+1
noncomputable def Fs.dep:Fs->Nat
 | .nil=>0
 | .cons _ k r=>max k.dep r.dep
end
theorem Kd.Hg (k:Kd):1<=k.dep:=by cases k <;> simp[Kd.dep]
noncomputable def Fs.names:Fs->List Str
 | .nil=>[]
 | .cons x _ r=>x::r.names
noncomputable def Fs.get:Fs->Str->Option Kd
 | .nil,_=>none
 | .cons y k r,x=>if x=y then some k else r.get x
noncomputable def Fs.at:Fs->Nat->Option (Str × Kd)
 | .nil,_=>none
 | .cons x k _,0=>some (x,k)
 | .cons _ _ r,i+1=>r.at i
noncomputable def Fs.snoc:Fs->Str->Kd->Fs
 | .nil,x,k=>.cons x k .nil
 | .cons y q r,x,k=>.cons y q (r.snoc x k)
theorem Fs.Hh:∀(fs:Fs) (x:Str) (k:Kd),(fs.snoc x k).names=fs.names++[x]
 | .nil,_,_=>rfl
 | .cons y q r,x,k=>by
   show y::(r.snoc x k).names=_
   rw[Fs.Hh r x k];rfl
theorem Fs.Hi:∀(fs:Fs) (i:Nat),fs.names[i]? =(fs.at i).map (·.1)
 | .nil,i=>by simp[Fs.names,Fs.at]
 | .cons x k r,0=>by simp[Fs.names,Fs.at]
 | .cons x k r,i+1=>by
   show(x::r.names)[i+1]? =_
   rw[List.getElem?_cons_succ,Fs.Hi r i];rfl
theorem Fs.Ve:∀{fs:Fs}{i:Nat}{x:Str}{k:Kd},fs.names.Nodup->fs.at i=some (x,k)->fs.get x=some k
 | .nil,_,_,_,_,h=>by cases h
 | .cons y q r,0,x,k,_,h=>by
   cases h
   simp[Fs.get]
 | .cons y q r,i+1,x,k,nd,h=>by
   have nd:(y::r.names).Nodup:=nd
   obtain⟨n1,n2⟩:=List.nodup_cons.mp nd
   have h:r.at i=some (x,k):=h
   have hm:x∈r.names:=List.mem_of_getElem? (i:=i) (by rw[Fs.Hi,h];rfl)
   show(if x=y then some q else r.get x)=some k
   rw[if_neg (λe=>n1 (by rw[<-e];exact hm))]
   exact Fs.Ve n2 h
noncomputable def i_:Kd->Prop
 | .num=>True
 | .bQ=>True
 |_=>False
noncomputable def Fs.pl (fs:Fs) (x:Str):Prop:=∃k,fs.get x=some k/\i_ k
noncomputable def cellAt (ns:List Int) (n:Int):Int:=if 0<ns.length then ns.getD (n % (ns.length:Int)).toNat 0 else 0
noncomputable def nx (ns:List Int) (n:Int):Int:=
 ((cellAt ns n % 2147483647+n * n * 7919+11) * 48271 % 2147483647) * ((cellAt ns n % 2147483647+n * n * 7919+11) * 48271 % 2147483647) % 1999999973
theorem ae8 (ns:List Int)(n:Int):0<=nx ns n:=Int.emod_nonneg _ (by decide)
theorem ae9 (ns:List Int)(n:Int):nx ns n<1999999973:=Int.emod_lt_of_pos _ (by decide)
end Pb
namespace Pb
open PySem L2
mutual
noncomputable def KA (H:Hp):V->Kd->Prop
 |v,.num=>∃a,v=.ref a/\H a=some (.tup [.str "number"])
 |v,.bQ=>∃a,v=.ref a/\H a=some (.tup [.str "word"])
 |v,.bW fs=>∃a b vs,v=.ref a/\H a=some (.tup [.str "record",.ref b])/\H b=some (.tup vs)/\FA H vs fs
 |v,.rows key by_ fs=>∃a b vs,v=.ref a/\H a=some (.tup [.str "rows",.str key,.str by_,.ref b])/\H b=some (.tup vs)/\FA H vs fs
 |v,.tree k=>∃a u,v=.ref a/\H a=some (.tup [.str "tree",u])/\KA H u k
 |v,.bV fs=>∃a b vs,v=.ref a/\H a=some (.tup [.str "either",.ref b])/\H b=some (.tup vs)/\FA H vs fs
noncomputable def FA (H:Hp):List V->Fs->Prop
 |vs,.nil=>vs=[]
 |vs,.cons x k r=>∃c u vr,vs=.ref c::vr/\H c=some (.tup [.str x,u])/\KA H u k/\FA H vr r
end
noncomputable def Tu (H H':Hp):Prop:=∀a xs,H a=some (.tup xs)->H' a=some (.tup xs)
theorem Tu.trans {H H1 H2:Hp}(a:Tu H H1)(b:Tu H1 H2):Tu H H2:=λc xs h=>b c xs (a c xs h)
theorem Tu.of {H H':Hp}(s:Same H H'):Tu H H':=λa xs h=>s a _ h
mutual
theorem KA.mono {H H':Hp}(t:Tu H H'):∀{v:V}(k:Kd),KA H v k->KA H' v k
 |v,.num,h=>by
  unfold KA at h ⊢
  obtain⟨a,e,q⟩:=h
  exact⟨a,e,t _ _ q⟩
 |v,.bQ,h=>by
  unfold KA at h ⊢
  obtain⟨a,e,q⟩:=h
  exact⟨a,e,t _ _ q⟩
 |v,.bW fs,h=>by
  unfold KA at h ⊢
  obtain⟨a,b,vs,e,q1,q2,f⟩:=h
  exact⟨a,b,vs,e,t _ _ q1,t _ _ q2,FA.mono t fs f⟩
 |v,.rows key by_ fs,h=>by
  unfold KA at h ⊢
  obtain⟨a,b,vs,e,q1,q2,f⟩:=h
  exact⟨a,b,vs,e,t _ _ q1,t _ _ q2,FA.mono t fs f⟩
 |v,.tree k,h=>by
  unfold KA at h ⊢
  obtain⟨a,u,e,q,f⟩:=h
  exact⟨a,u,e,t _ _ q,KA.mono t k f⟩
 |v,.bV fs,h=>by
  unfold KA at h ⊢
  obtain⟨a,b,vs,e,q1,q2,f⟩:=h
  exact⟨a,b,vs,e,t _ _ q1,t _ _ q2,FA.mono t fs f⟩
theorem FA.mono {H H':Hp}(t:Tu H H'):∀{vs:List V}(fs:Fs),FA H vs fs->FA H' vs fs
 |vs,.nil,h=>by
  unfold FA at h ⊢
  exact h
 |vs,.cons x k r,h=>by
  unfold FA at h ⊢
  obtain⟨c,u,vr,e,q,f,g⟩:=h
  exact⟨c,u,vr,e,t _ _ q,KA.mono t k f,FA.mono t r g⟩
end
theorem FA.len {H:Hp}:∀{vs:List V}(fs:Fs),FA H vs fs->vs.length=fs.names.length
 |vs,.nil,h=>by
  unfold FA at h
  rw[h];rfl
 |vs,.cons x k r,h=>by
  unfold FA at h
  obtain⟨c,u,vr,e,_,_,g⟩:=h
  rw[e]
  show vr.length+1=r.names.length+1
  rw[FA.len r g]
theorem FA.snoc {H:Hp}{c:Addr}{u:V}{x:Str}{k:Kd}(hc:H c=some (.tup [.str x,u]))(hk:KA H u k):∀{vs:List V}(fs:Fs),FA H vs fs->FA H (vs++[.ref c]) (fs.snoc x k)
 |vs,.nil,h=>by
  unfold FA at h
  subst h
  show FA H [.ref c] (.cons x k .nil)
  unfold FA
  exact⟨c,u,[],rfl,hc,hk,by unfold FA;rfl⟩
 |vs,.cons y q r,h=>by
  unfold FA at h
  obtain⟨d,w,vr,e,h1,h2,h3⟩:=h
  subst e
  show FA H (.ref d::(vr++[.ref c])) (.cons y q (r.snoc x k))
  unfold FA
  exact⟨d,w,vr++[.ref c],rfl,h1,h2,FA.snoc hc hk r h3⟩
noncomputable def Kp (S:Addr->Prop) (H H':Hp):Prop:=∀c o,¬S c->H c=some o->H' c=some o
theorem Kp.trans {S:Addr->Prop}{H H1 H2:Hp}(x:Kp S H H1)(y:Kp S H1 H2):Kp S H H2:=λc o n h=>y c o n (x c o n h)
theorem Kp.of {S:Addr->Prop}{H H':Hp}(s:Same H H'):Kp S H H':=λc o _ h=>s c o h
theorem ae_:∀j:Nat,j<26->(("abcdefghijklmnopqrstuvwxyz":Str)).cps.toList[j]? =some (97+j):=by decide +kernel
theorem afa:(("abcdefghijklmnopqrstuvwxyz":Str)).cps.toList.length=26:=by decide +kernel
theorem afb {z:Int}(h0:0<=z)(h1:z<26):cM (("abcdefghijklmnopqrstuvwxyz":Str)).cps.toList z=some (97+z.toNat):=by
 unfold cM lW
 rw[afa,if_pos h0,if_pos (show z<((26:Nat):Int) by omega)]
 exact ae_ z.toNat (by omega)
theorem afc {z:Int}(h0:0<=z)(h1:z<6):cM [V.int 1,.int 3,.int 5,.int 7,.int 9,.int 11] z=some (.int (2 * z+1)):=by
 have h:z=0\/z=1\/z=2\/z=3\/z=4\/z=5:=by omega
 rcases h with h|h|h|h|h|h <;> subst h <;> rfl
theorem afd (x y:Str):(x++y).length=x.length+y.length:=by
 show(x.cps++y.cps).size=x.cps.size+y.cps.size
 simp
theorem afe {f:Nat->Str}:∀{n:Nat},(∀i j,i<n->j<n->f i=f j->i=j)->((List.range n).map f).Nodup:=by
 intro n h
 refine List.pairwise_map.mpr (List.Pairwise.imp_of_mem (λ{a b} ha hb hab=>?_) (List.nodup_range (n:=n)))
 intro e
 exact hab (h a b (List.mem_range.mp ha) (List.mem_range.mp hb) e)
end Pb
noncomputable abbrev Pb.Tx:=List Nat
namespace Pb
noncomputable def fu (c:Nat):Bool:=decide (97<=c) && decide (c<=122)
noncomputable def isF (c:Nat):Bool:=decide (48<=c) && decide (c<=57)
noncomputable def marks:Tx:=[123,125,91,93,40,41,60,62,58,44]
inductive Th where
 |int (i:Int)
 |str (x:Tx)
structure Pc where
 sort:Nat
 th:Th
 b:Nat
 e:Nat
noncomputable def nG (p:Nat) (r:Tx):Pc:=⟨1,.str [],p,p+r.length⟩
noncomputable def sgn (r:Tx):Nat:=if r.head? =some 45 then 1 else 0
noncomputable def bM (r:Tx):Nat:=((r.drop (sgn r)).takeWhile isF).length
noncomputable def numAt (iv:Tx->Int) (p:Nat) (r:Tx):Pc:=
 if bM r=0\/80<bM r then nG p r
 else if(r.drop (sgn r)).head? =some 48/\r.take (sgn r+bM r)≠[48] then nG p r
 else⟨5,.int (iv (r.take (sgn r+bM r))),p,p+(sgn r+bM r)⟩
noncomputable def jc (r:Tx):Nat:=(r.takeWhile fu).length
noncomputable def su (p:Nat) (r:Tx):Pc:=if 12<jc r then nG p r else⟨4,.str (r.take (jc r)),p,p+jc r⟩
noncomputable def unq (r:Tx):Nat:=(r.takeWhile λc=>c != 34).length
noncomputable def wordAt (p:Nat) (r:Tx):Pc:= -- r behind the first quote
 if unq r=r.length\/40<unq r then nG p (34::r) else⟨3,.str (r.take (unq r)),p,p+(unq r+2)⟩
noncomputable def dz (iv:Tx->Int) (p:Nat) (c:Nat) (r:Tx):Pc:=
 if c∈marks then⟨2,.str [c],p,p+1⟩
 else if c=34 then wordAt p r
 else if fu c=true then su p (c::r)
 else numAt iv p (c::r)
noncomputable def toks (iv:Tx->Int):Nat->Nat->Tx->List Pc
 |_,p,[]=>[⟨0,.str [],p,p⟩]
 |0,_,_::_=>[]
 |f+1,p,c::r=>if c=32 then toks iv f (p+1) r else dz iv p c r::toks iv f (dz iv p c r).e ((c::r).drop ((dz iv p c r).e - p))
theorem uU (f:Nat->Bool)(r:Tx):(r.takeWhile f).length<=r.length:=(List.takeWhile_prefix f).length_le
theorem Bw {p r}:(nG p r).e=p+r.length:=rfl
theorem Hj {iv p c r}:p<(dz iv p c r).e/\(dz iv p c r).e<=p+(r.length+1):=by
 unfold dz
 split
 . exact⟨by show p<p+1;omega,by show p+1<=_;omega⟩
 split
 . unfold wordAt
   split
   . rw[Bw];simp
   . rename_i h
     have:=uU (λc=>c != 34) r
     have e:unq r<=r.length:=this
     exact⟨by show p<p+(unq r+2);omega,by show p+(unq r+2)<=_;omega⟩
 split
 . rename_i h
   have e1:jc (c::r)=jc r+1:=by unfold jc;rw[List.takeWhile_cons_of_pos h];rfl
   have e:jc r<=r.length:=uU _ r
   unfold su
   split
   . rw[Bw];simp
   . exact⟨by show p<p+jc (c::r);omega,by show p+jc (c::r)<=_;omega⟩
 . unfold numAt
   split
   . rw[Bw];simp
   split
   . rw[Bw];simp
   . rename_i h1 h2
     have e:bM (c::r)<=((c::r).drop (sgn (c::r))).length:=uU _ _
     rw[List.length_drop] at e
     have e2:(c::r).length=r.length+1:=rfl
     exact⟨by show p<p+(_+bM (c::r));omega,by show p+(_+bM (c::r))<=_;omega⟩
theorem Hl (iv:Tx->Int):∀(f g p:Nat) (r:Tx),r.length<=f->r.length<=g->toks iv f p r=toks iv g p r
 |f,g,p,[],_,_=>by cases f <;> cases g <;> rfl
 |f+1,g+1,p,c::r,hf,hg=>by
  have h1:r.length<=f:=by simpa using hf
  have h2:r.length<=g:=by simpa using hg
  show(if c=32 then toks iv f (p+1) r else _::toks iv f _ _)=(if c=32 then toks iv g (p+1) r else _::toks iv g _ _)
  have⟨e1,e2⟩:=Hj (iv:=iv) (p:=p) (c:=c) (r:=r)
  have e3:((c::r).drop ((dz iv p c r).e - p)).length<=r.length:=by rw[List.length_drop];show r.length+1 - _<=_;omega
  rw[Hl iv f g (p+1) r h1 h2,Hl iv f g _ _ (Nat.le_trans e3 h1) (Nat.le_trans e3 h2)]
 |0,_,_,_::_,hf,_=>absurd hf (by simp)
 |_+1,0,_,_::_,_,hg=>absurd hg (by simp)
noncomputable def cI (iv:Tx->Int) (p:Nat) (r:Tx):List Pc:=toks iv r.length p r
theorem Vf {iv p}:cI iv p []=[⟨0,.str [],p,p⟩]:=rfl
theorem Vg {iv p r}:cI iv p (32::r)=cI iv (p+1) r:=by
 unfold cI
 rw[List.length_cons,toks,if_pos rfl]
theorem Bx {iv p c r}(h:c≠32):cI iv p (c::r)=dz iv p c r::cI iv (dz iv p c r).e ((c::r).drop ((dz iv p c r).e - p)):=by
 have⟨e1,e2⟩:=Hj (iv:=iv) (p:=p) (c:=c) (r:=r)
 have e3:((c::r).drop ((dz iv p c r).e - p)).length<=r.length:=by rw[List.length_drop];show r.length+1 - _<=_;omega
 unfold cI
 rw[List.length_cons,toks,if_neg h,Hl iv r.length _ _ _ e3 (Nat.le_refl _)]
theorem xQ {iv}:∀(k p:Nat) (r:Tx),cI iv p (List.replicate k 32++r)=cI iv (p+k) r
 |0,p,r=>rfl
 |k+1,p,r=>by
  rw[List.replicate_succ,List.cons_append,Vg,xQ k,Nat.add_assoc,Nat.add_comm 1 k]
theorem afg {iv:Tx->Int}(p j:Nat):cI iv p (List.replicate j 32)=[⟨0,.str [],p+j,p+j⟩]:=by
 have:=xQ (iv:=iv) j p []
 rw[List.append_nil] at this
 rw[this,Vf]
theorem afh:∀c,fu c=true->c ∉ marks/\c≠34/\c≠32:=by
 intro c h
 unfold fu at h
 unfold marks
 simp only[Bool.and_eq_true,decide_eq_true_eq] at h
 simp only[ne_eq,List.mem_cons,List.not_mem_nil,or_false]
 refine⟨?_,?_,?_⟩ <;> omega
end Pb
namespace Pb
open PySem L2 PyProof.Rows
noncomputable def top (i:Nat):Stmt:=PySem.Challenge.pw_putback_k72_no_kind_in_text.main.body.getD i (.Pass ⟨0,0,0,0⟩)
theorem boot_isinstance:bootBuiltins "isinstance"=some (.builtin "isinstance"):=by decide +kernel
theorem boot_sorted:bootBuiltins "sorted"=some (.builtin "sorted"):=by decide +kernel
theorem boot_int:bootBuiltins "int"=some (.type "int"):=by decide +kernel
theorem boot_list:bootBuiltins "list"=some (.type "list"):=by decide +kernel
theorem boot_tuple:bootBuiltins "tuple"=some (.type "tuple"):=by decide +kernel
theorem boot_min:bootBuiltins "min"=some (.builtin "min"):=by decide +kernel
theorem boot_reversed:bootBuiltins "reversed"=some (.type "reversed"):=by decide +kernel
structure Tb (mg:Str->Option Value):Prop where
 jJ:mg "len"=none
 BJ:mg "isinstance"=none
 Ho:mg "sorted"=none
 uV:mg "range"=none
 afi:mg "int"=none
 asl:mg "bool"=none
 asn:mg "str"=none
 Vh:mg "list"=none
 BK:mg "tuple"=none
 afj:mg "min"=none
 aso:mg "all"=none
 asp:mg "dict"=none
 BL:mg "enumerate"=none
 asq:mg "zip"=none
 afk:mg "reversed"=none
structure Dn (K:W.Frag) (mg:Str->Option Value) (x:Str) (ps:List Str) (st:Stmt) (f:Addr) (fd:FuncData):Prop where
 F:jZ K x x st f fd
 b:Binds K fd ps []
 m:mg x=some (.ref f)
noncomputable def jK (K:W.Frag) (H:Hp) (a:Addr) (ns:List Int):Prop:=
 (∃o,H a=some (.kY o (.lst (ns.map V.int))))\/
   ∃(o:Obj) (its:Array Value) (n:Nat),K.lookup a=some o/\o.cls=.type "list"/\o.dict=none/\o.data=.seq its n/\its.size<=sizeLine/\Vals (ns.map V.int) its.toList
theorem jK.sq {K:W.Frag}{H:Hp}{a:Addr}{ns:List Int}(h:jK K H a ns):aL K H a (ns.map V.int):=by
 rcases h with⟨o,h⟩|h
 . exact .inl (.inr ⟨o,h⟩)
 . exact .inr h
noncomputable def SB (b:Addr) (H H':Hp):Prop:=∀c o,c≠b->H c=some o->H' c=some o
theorem SB.trans {b:Addr}{H H1 H2:Hp}(x:SB b H H1)(y:SB b H1 H2):SB b H H2:=λc o n h=>y c o n (x c o n h)
theorem SB.of {b:Addr}{H H':Hp}(s:Same H H'):SB b H H':=λc o _ h=>s c o h
theorem SB.wr {b:Addr}{H:Hp}{o:HO}:SB b H (upd H b o):=λc u n h=>by rw[aq n];exact h
theorem SB.new {b p:Addr}{H:Hp}{o:HO}(h:H p=none):SB b H (upd H p o):=λc u n q=>by rw[aq (aJ q h)];exact q
structure G0 (K:W.Frag) (H:Hp) (a b:Addr) (ns:List Int) (n:Int):Prop where
 sy:jK K H a ns
 len:ns.length<=63
 at_:H b=some (.lst [.int n])
 pos:0<=n
theorem SB.sy {K:W.Frag}{b:Addr}{H H':Hp}{a:Addr}{ns:List Int}{n:Int}(x:SB b H H')(hb:H b=some (.lst [.int n]))(h:jK K H a ns):jK K H' a ns:=by
 rcases h with⟨o,h⟩|h
 . exact .inl ⟨o,x a _ (fW h hb (by intro z;cases z)) h⟩
 . exact .inr h
theorem SB.tu {b:Addr}{H H':Hp}{n:Int}(x:SB b H H')(hb:H b=some (.lst [.int n])):Tu H H':=λc xs h=>x c _ (fW h hb (by intro z;cases z)) h
theorem G0.go {K:W.Frag}{H H':Hp}{a b:Addr}{ns:List Int}{n n':Int}(g:G0 K H a b ns n)(x:SB b H H')(h:H' b=some (.lst [.int n']))(hn:n<=n'):G0 K H' a b ns n':=
 ⟨x.sy g.at_ g.sy,g.len,h,by have:=g.pos;omega⟩
theorem Same.new {H:Hp}{p:Addr}{o:HO}(h:H p=none):Same H (upd H p o):=λc u q=>by rw[aq (aJ q h)];exact q
theorem int_at {ns:List Int}{z:Int}(h0:0<=z)(h1:z<ns.length):cM (ns.map V.int) z=some (.int (ns.getD z.toNat 0)):=by
 obtain⟨j,rfl⟩:∃j:Nat,z=(j:Int):=⟨z.toNat,by omega⟩
 rw[Int.toNat_natCast]
 exact gZ (by rw[List.getElem?_map,List.getD_eq_getElem?_getD,List.getElem?_eq_getElem (by omega)];rfl)
noncomputable def Vi (K:W.Frag):Sp:=λvs H Q _=>∃a b ns n,vs=[.ref a,.ref b]/\G0 K H a b ns n/\n<=1000000000000/\
 ∀(H':Hp),SB b H H'->H' b=some (.lst [.int (n+1)])->Q (.int (nx ns (n+1))) H'
noncomputable def lZ (K:W.Frag):Sp:=λvs H Q _=>∃a b ns n,vs=[.ref a,.ref b]/\G0 K H a b ns n/\n<=1000000000000/\
 ∀(r:Int) (H':Hp),0<=r->r<1999999973->SB b H H'->H' b=some (.lst [.int (n+1)])->Q (.int r) H'
theorem xR {P:Program}{w:World}{K:W.Frag}{mg:Str->Option Value}{base:Heap}{CX:iW}{k:Nat}{f:Addr}{fd:FuncData}{ps:List Str}(F:aB P w K mg base CX k f fd ps (Vi K)):aB P w K mg base CX k f fd ps (lZ K):=
 F.imp λvs H Q E ⟨a,b,ns,n,e,g,hn,q⟩=>⟨a,b,ns,n,e,g,hn,λH' s1 h1=>q _ H' (ae8 _ _) (ae9 _ _) s1 h1⟩
structure Dm (K:W.Frag) (x qual:Str) (ps:List Str) (st:Stmt) (f:Addr) (fd:FuncData):Prop where
 F:jZ K x qual st f fd
 b:Binds K fd ps []
noncomputable def aR (i j:Nat):Stmt:=match top i with
 | .ClassDef _ _ _ body _ _ _ _ _ _ _=>body.getD j (.Pass ⟨0,0,0,0⟩)
 |_=>.Pass ⟨0,0,0,0⟩
noncomputable def ao (x:Tx):Str:=⟨x.toArray⟩
theorem oO (x:Tx):(ao x).cps.toList=x:=rfl
theorem dB (x:Tx):(ao x).length=x.length:=List.size_toArray
theorem uW (z:Str):ao z.cps.toList=z:=by cases z;rfl
theorem oR {x y:Tx}(h:ao x=ao y):x=y:=by have:=congrArg (λz:Str=>z.cps.toList) h;exact this
theorem mj (x y:Tx):ao x++ao y=ao (x++y):=by
 show(⟨x.toArray++y.toArray⟩:Str)=⟨(x++y).toArray⟩
 rw[List.append_toArray]
noncomputable def Th.V:Th->V
 | .int i=>.int i
 | .str x=>.str (ao x)
noncomputable def dH:Nat->Str
 |0=>"end"
 |1=>"none"
 |2=>"mark"
 |3=>"word"
 |4=>"name"
 |_=>"number"
noncomputable def iv (x:Tx):Int:=(intText? (ao x)).getD 0
noncomputable def Vj (q:Pc):List V:=[.str (dH q.sort),q.th.V,.int q.b,.int q.e]
noncomputable abbrev mq (H:Hp) (v:V) (q:Pc):Prop:=∃a,v=.ref a/\H a=some (.tup (Vj q))
inductive iH (H:Hp):List V->List Pc->Prop
 |nil:iH H [] []
 |cons {v:V} {q:Pc} {vs:List V} {qs:List Pc} (h:mq H v q) (t:iH H vs qs):iH H (v::vs) (q::qs)
theorem iH.tu {H H':Hp}(u:Tu H H'):∀{vs:List V}{qs:List Pc},iH H vs qs->iH H' vs qs
 |_,_,.nil=>.nil
 |_,_,.cons ⟨a,e,h⟩ t=>.cons ⟨a,e,u _ _ h⟩ (iH.tu u t)
theorem iH.snoc {H:Hp}{v:V}{q:Pc}(h:mq H v q):∀{vs:List V}{qs:List Pc},iH H vs qs->iH H (vs++[v]) (qs++[q])
 |_,_,.nil=>.cons h .nil
 |_,_,.cons g t=>.cons g (iH.snoc h t)
variable {P:Program}{w:World}{K:W.Frag}{mg:Str->Option Value}{base:Heap}
theorem Vk:bR ["_law_script","_law_at","_law_cell","_law_m"] ["_law_script","_law_at"] (aN (top 34)):=cA
theorem xT (T:Tb mg)(bA:Dn K mg "_law_next" ["_law_script","_law_at"] (top 34) eU eV):aB P w K mg base aO (1) eU eV ["_law_script","_law_at"] (Vi K):=by
 refine bA.F.ok Vk (λvs H Q E h=>?_) (λcdv A outer s H vs Q E hr h=>?_)
 . obtain⟨a,b,ns,n,rfl,_⟩:=h
   rfl
 obtain⟨a,b,ns,n,rfl,g,hn,q⟩:=h
 have nd:=Vk.nd
 refine⟨_,(aC (uw (aF gK (aU dU (pv 1) au (λ_ _=>rfl)) au) (acy (pv 1) au set_list))
  (aC (aQ (i:=2) nd rfl (Or.inl rfl) au)
  (aC (bF (bh pP (gb pU (by rfl) T.jJ PySem.boot_len (aj (pv 0) ak)) au (bw _)) (aH (aQ (i:=2) nd rfl (Or.inl rfl) (aU dU (pv 0) (aF cC (aU dU (pv 1) au (λ_ _=>rfl)) (gb pU (by rfl) T.jJ PySem.boot_len (aj (pv 0) ak))) (λ_ _=>rfl)))) bG)
  (aC (aQ (i:=3) nd rfl (Or.inl rfl) (aF cC (aF uF (aF gK (aF gK (aF cC (pv 2) au) (aF uF (aF uF (aU dU (pv 1) au (λ_ _=>rfl)) (aU dU (pv 1) au (λ_ _=>rfl))) au)) au) au) au))
  (aH (aW (aF cC (aF uF (pv 3) (pv 3)) au))))))),?_⟩
 have hb:=g.at_
 have hp:=g.pos
 have hS:aL K (upd H b (.lst [.int (n+1)])) a (ns.map V.int):=(SB.wr.sy hb g.sy).sq
 have hb':upd H b (.lst [.int (n+1)]) b=some (.lst [.int (n+1)]):=aG
 refine⟨_,rfl,b,_,_,_,rfl,rfl,aL.of hb,rfl,_,_,rfl,rfl,_,rfl,b,_,_,0,rfl,rfl,hb,rfl,?_⟩
 refine⟨_,rfl,a,_,rfl,.inl hS,_,_,rfl,rfl,_,rfl,?_⟩
 have hl:(ns.map V.int).length=ns.length:=List.length_map _
 refine bN (λc=>?_) (λc=>?_)
 . have c':(0:Int)<((ns.map V.int).length:Nat):=of_decide_eq_true c
   rw[hl] at c'
   have i0:=Int.emod_nonneg (n+1) (show(ns.length:Int)≠0 by omega)
   have i1:=Int.emod_lt_of_pos (n+1) c'
   have hz:cM (ns.map V.int) ((n+1) % (((ns.map V.int).length:Nat):Int))=some (.int (cellAt ns (n+1))):=by
    rw[hl,int_at i0 i1]
    unfold cellAt
    rw[if_pos (by omega)]
   refine⟨_,rfl,_,rfl,b,_,_,_,rfl,rfl,aL.of hb',rfl,_,rfl,a,_,rfl,.inl hS,_,_,rfl,rfl,by rw[hl];exact c',a,_,_,_,rfl,rfl,hS,hz,?_⟩
   refine⟨_,rfl,_,_,rfl,rfl,(by show(0:Int)<_;decide),_,rfl,b,_,_,_,rfl,rfl,aL.of hb',rfl,_,rfl,b,_,_,_,rfl,rfl,aL.of hb',rfl,_,_,rfl,rfl,.inl ⟨by omega,by omega⟩,_,_,rfl,rfl,.inr ⟨by decide,by decide⟩,
    _,_,rfl,rfl,_,_,rfl,rfl,_,_,rfl,rfl,.inr ⟨by decide,by decide⟩,_,_,rfl,rfl,(by show(0:Int)<_;decide),?_⟩
   refine⟨_,rfl,_,rfl,_,_,rfl,rfl,.inl ⟨?_,?_⟩,_,_,rfl,rfl,(by show(0:Int)<_;decide),q _ SB.wr hb'⟩
   . exact Int.lt_of_lt_of_le (by decide) (Int.emod_nonneg _ (by decide))
   . exact Int.lt_trans (Int.emod_lt_of_pos _ (by decide)) (by decide)
 . have c':¬(0:Int)<((ns.map V.int).length:Nat):=λz=>c (decide_eq_true z)
   rw[hl] at c'
   have hz:cellAt ns (n+1)=0:=by
    unfold cellAt
    rw[if_neg (by omega)]
   have q':Q (.int (((0:Int) % 2147483647+(n+1) * (n+1) * 7919+11) * 48271 % 2147483647 * (((0:Int) % 2147483647+(n+1) * (n+1) * 7919+11) * 48271 % 2147483647) % 1999999973)) (upd H b (.lst [.int (n+1)])):=by
    have:=q _ SB.wr hb'
    unfold nx at this
    rw[hz] at this
    exact this
   refine⟨_,rfl,_,_,rfl,rfl,(by show(0:Int)<_;decide),_,rfl,b,_,_,_,rfl,rfl,aL.of hb',rfl,_,rfl,b,_,_,_,rfl,rfl,aL.of hb',rfl,_,_,rfl,rfl,.inl ⟨by omega,by omega⟩,_,_,rfl,rfl,.inr ⟨by decide,by decide⟩,
    _,_,rfl,rfl,_,_,rfl,rfl,_,_,rfl,rfl,.inr ⟨by decide,by decide⟩,_,_,rfl,rfl,(by show(0:Int)<_;decide),?_⟩
   refine⟨_,rfl,_,rfl,_,_,rfl,rfl,.inl ⟨?_,?_⟩,_,_,rfl,rfl,(by show(0:Int)<_;decide),q'⟩
   . exact Int.lt_of_lt_of_le (by decide) (Int.emod_nonneg _ (by decide))
   . exact Int.lt_trans (Int.emod_lt_of_pos _ (by decide)) (by decide)
noncomputable def inR (lo hi c:Nat):Bool:=decide (lo<=c) && decide (c<=hi)
noncomputable def BP:Sp:=λvs H Q _=>∃t:Tx,∃p:Nat,vs=[.str (ao t),.int p]/\t.length<=100000/\p<=t.length/\∀v H',Same H H'->mq H' v (nG p (t.drop p))->Q v H'
noncomputable def Hq:Sp:=λvs H Q _=>∃t:Tx,∃p lo hi:Nat,vs=[.str (ao t),.int p,.str (ao [lo]),.str (ao [hi])]/\t.length<=100000/\p<=t.length/\Q (.int ((p+((t.drop p).takeWhile (inR lo hi)).length:Nat):Int)) H
noncomputable def Vl:Sp:=λvs H Q _=>∃t:Tx,∃p:Nat,vs=[.str (ao t),.int p]/\t.length<=100000/\t[p]? =some 34/\∀v H',Same H H'->mq H' v (wordAt p (t.drop (p+1)))->Q v H'
noncomputable def Vm:Sp:=λvs H Q _=>∃t:Tx,∃p:Nat,vs=[.str (ao t),.int p]/\t.length<=100000/\p<t.length/\∀v H',Same H H'->mq H' v (su p (t.drop p))->Q v H'
noncomputable def Vn:Sp:=λvs H Q _=>∃t:Tx,∃p:Nat,vs=[.str (ao t),.int p]/\t.length<=100000/\p<t.length/\∀v H',Same H H'->mq H' v (numAt iv p (t.drop p))->Q v H'
noncomputable def Vo:Sp:=λvs H Q _=>∃t:Tx,∃p c:Nat,vs=[.str (ao t),.int p]/\t.length<=100000/\t[p]? =some c/\∀v H',Same H H'->mq H' v (dz iv p c (t.drop (p+1)))->Q v H'
noncomputable def Vp:Sp:=λvs H Q _=>∃t:Tx,vs=[.str (ao t)]/\t.length<=100000/\∀l us H',Same H H'->H l=none->H' l=some (.lst us)->iH H' us (cI iv 0 t)->Q (.ref l) H'
theorem sE {n:Nat}(h:n<=100000):n<=sizeLine:=Nat.le_trans h (by decide)
theorem BR (a b:Nat):(!decide ((ao [a]).cps.toList<(ao [b]).cps.toList))=decide (b<=a):=by
 rw[oO,oO]
 by_cases h:b<=a
 . rw[decide_eq_true h,decide_eq_false (λz=>by have:=Vb.mp z;omega)];rfl
 . rw[decide_eq_false h,decide_eq_true (Vb.mpr (by omega))];rfl
theorem Vq:bR ["text","place"] ["text","place"] (aN (top 19)):=cA
theorem afl (T:Tb mg)(gh:Dn K mg "no_piece" ["text","place"] (top 19) qj qm):aB P w K mg base aO (1) qj qm ["text","place"] (BP):=by
 refine gh.F.ok Vq (λvs H Q E h=>?_) (λcdv A outer s H vs Q E hr h=>?_)
 . obtain⟨t,p,rfl,_⟩:=h
   rfl
 obtain⟨t,p,rfl,hl,hp,q⟩:=h
 have nd:=Vq.nd
 refine⟨_,(aH (aW (bH (aj aD (aj aD (aj (pv 1) (aj (gb uK (by rfl) T.jJ PySem.boot_len (aj (pv 0) ak)) ak))))))),?_⟩
 have hz:(ao t).length<=sizeLine:=by rw[dB];exact sE hl
 refine⟨_,rfl,_,rfl,_,rfl,hz,gw,λa ha=>q _ _ (Same.new ha) ⟨a,rfl,?_⟩⟩
 rw[aG]
 have e:((ao t).length:Int)=((p+(t.drop p).length:Nat):Int):=by rw[dB,List.length_drop];omega
 show some (HO.tup [.str "none",.str "",.int p,.int (ao t).length])=some (HO.tup [.str "none",.str (ao []),.int p,.int ((p+(t.drop p).length:Nat):Int)])
 rw[e];rfl
theorem Vr:bR ["text","place","least","most","end"] ["text","place","least","most"] (aN (top 20)):=cA
theorem afm (T:Tb mg)(j5:Dn K mg "run_end" ["text","place","least","most"] (top 20) uX uY):aB P w K mg base aO (1) uX uY ["text","place","least","most"] (Hq):=by
 refine j5.F.ok Vr (λvs H Q E h=>?_) (λcdv A outer s H vs Q E hr h=>?_)
 . obtain⟨t,p,lo,hi,rfl,_⟩:=h
   rfl
 obtain⟨t,p,lo,hi,rfl,hl,hp,q⟩:=h
 have nd:=Vr.nd
 refine⟨_,(aC (aQ (i:=4) nd rfl (Or.inl rfl) (pv 1))
  (aC (Ae PassesOwn.never (PW.pt (lO (bh uG (pv 4) (gb uK (by rfl) T.jJ PySem.boot_len (aj (pv 0) ak)) (bw _)) (lO (bh U_ (aU jY (pv 0) (pv 4) (λ_ _=>rfl)) (pv 2) (bw _)) (oA (bh Va (aU jY (pv 0) (pv 4) (λ_ _=>rfl)) (pv 3) (bw _)))))) (aH (Ft (i:=4) nd rfl (Or.inl rfl) au Fv)))
  (aH (aW (pv 4))))),?_⟩
 refine⟨_,rfl,?_⟩
 refine⟨λm σ H'=>∃e:Nat,m=t.length - e/\H'=H/\p<=e/\e<=t.length/\σ=[some (.str (ao t)),some (.int p),some (.str (ao [lo])),some (.str (ao [hi])),some (.int e)]/\e+((t.drop e).takeWhile (inR lo hi)).length=p+((t.drop p).takeWhile (inR lo hi)).length,⟨_,p,rfl,rfl,Nat.le_refl _,hp,rfl,rfl⟩,?_⟩
 rintro m σ H' ⟨e,rfl,rfl,h1,h2,rfl,h3⟩
 have hz:(ao t).length<=sizeLine:=by rw[dB];exact sE hl
 refine⟨_,rfl,_,rfl,_,rfl,hz,_,_,rfl,rfl,_,rfl,?_⟩
 rw[dB]
 refine bN (λc=>?_) (λc=>?_)
 . have c':e<t.length:=by have:=of_decide_eq_true c;omega
   have hd:t[e]? =some (t[e]'c'):=List.getElem?_eq_getElem c'
   have hat:cM (ao t).cps.toList (e:Int)=some (t[e]'c'):=gZ (by rw[oO];exact hd)
   have hdrop:t.drop e=t[e]'c'::t.drop (e+1):=List.drop_eq_getElem_cons c'
   refine⟨_,rfl,_,rfl,_,_,_,rfl,rfl,hz,hat,_,rfl,_,_,rfl,rfl,_,rfl,?_⟩
   have stop:∀e':Nat,¬inR lo hi (t[e]'c')=true->Q (.int (e:Int)) H':=λ_ hn=>by
    rw[hdrop,List.takeWhile_cons_of_neg hn] at h3
    have:(p+((t.drop p).takeWhile (inR lo hi)).length:Nat)=e:=by rw[<-h3];rfl
    rw[this] at q
    exact q
   have g1:(!decide ((⟨#[t[e]'c']⟩:Str).cps.toList<(ao [lo]).cps.toList))=decide (lo<=t[e]'c'):=BR _ _
   have g2:(!decide ((ao [hi]).cps.toList<(⟨#[t[e]'c']⟩:Str).cps.toList))=decide (t[e]'c'<=hi):=BR _ _
   show if(!decide ((⟨#[t[e]'c']⟩:Str).cps.toList<(ao [lo]).cps.toList))=true then _ else _
   rw[g1]
   refine bN (λc1=>?_) (λc1=>?_)
   . refine⟨_,rfl,_,rfl,_,_,_,rfl,rfl,hz,hat,_,rfl,_,_,rfl,rfl,_,rfl,?_⟩
     show if(!decide ((ao [hi]).cps.toList<(⟨#[t[e]'c']⟩:Str).cps.toList))=true then _ else _
     rw[g2]
     refine bN (λc2=>?_) (λc2=>?_)
     . have hin:inR lo hi (t[e]'c')=true:=by unfold inR;rw[c1,c2];rfl
       refine⟨_,λ_ _ z=>z,?_⟩
       refine⟨_,rfl,_,_,rfl,rfl,t.length - (e+1),by omega,e+1,rfl,rfl,by omega,by omega,rfl,?_⟩
       rw[<-h3,hdrop,List.takeWhile_cons_of_pos hin,List.length_cons]
       omega
     . exact⟨_,rfl,stop e λz=>by unfold inR at z;rw[Bool.and_eq_true] at z;exact c2 z.2⟩
   . show if false=true then _ else _
     rw[if_neg Bool.false_ne_true]
     exact⟨_,rfl,stop e λz=>by unfold inR at z;rw[Bool.and_eq_true] at z;exact c1 z.1⟩
 . have c':e=t.length:=by
    have:¬(e:Int)<(t.length:Int):=λz=>c (decide_eq_true z)
    omega
   show if false=true then _ else _
   rw[if_neg Bool.false_ne_true]
   refine⟨_,rfl,?_⟩
   rw[c',List.drop_length] at h3
   have:(p+((t.drop p).takeWhile (inR lo hi)).length:Nat)=e:=by rw[<-h3,c'];rfl
   rw[this] at q
   exact q
structure Gb (mg:Str->Option Value) (tM tL tF tS:Tok):Prop where
 ma:mg "MARKS"=some (.str "{}[]()<>:," tM)
 le:mg "MOST_LETTERS"=some (.int 12 tL)
 fi:mg "MOST_FIGURES"=some (.int 80 tF)
 si:mg "MOST_SIGNS"=some (.int 40 tS)
theorem q34:(Str.ofString "\"")=(⟨#[34]⟩:Str):=by decide +kernel
theorem Hr {t:Tx}{p c:Nat}(h:t[p]? =some c):p<t.length:=by
 rcases Nat.lt_or_ge p t.length with z|z
 . exact z
 . rw[List.getElem?_eq_none z] at h;cases h
theorem Hs {t:Tx}{p c:Nat}(h:t[p]? =some c):t.drop p=c::t.drop (p+1):=by
 have hp:=Hr h
 rw[List.drop_eq_getElem_cons hp]
 rw[List.getElem?_eq_getElem hp] at h
 injection h with h
 rw[h]
theorem BW (t:Tx)(a b:Nat):Txt.slice (ao t) (some (a:Int)) (some (b:Int))=ao ((t.take b).drop a):=by
 have:=ae2 (ao t) (some a) (some b)
 rw[<-uW (Txt.slice _ _ _)]
 exact congrArg ao this
theorem Vs (r:Tx)(h0:bM r≠0)(h8:bM r<=640):(intText? (ao (r.take (sgn r+bM r)))).isSome=true:=by
 have hs:r.take (sgn r+bM r)=(if r.head? =some 45 then [45] else [])++(r.drop (sgn r)).takeWhile isF:=by
  have e2:(r.drop (sgn r)).take (bM r)=(r.drop (sgn r)).takeWhile isF:=by
   unfold bM
   exact(List.prefix_iff_eq_take.mp (List.takeWhile_prefix isF)).symm
  rw[List.take_add,e2]
  congr 1
  unfold sgn
  cases r with
  |nil=>rfl
  |cons c r=>
   by_cases z:(c::r).head? =some 45
   . rw[if_pos z,if_pos z]
     injection z with z
     rw[z];rfl
   . rw[if_neg z,if_neg z];rfl
 have e:(if r.head? =some 45 then [45] else []:Tx)=if decide (r.head? =some 45)=true then [45] else []:=by
  by_cases z:r.head? =some 45
  . rw[if_pos z,decide_eq_true z];rfl
  . rw[if_neg z,decide_eq_false z];rfl
 rw[hs,e]
 refine int_text (sg:=decide (r.head? =some 45)) (fs:=(r.drop (sgn r)).takeWhile isF) rfl (λc hc=>?_) (λz=>h0 ?_) h8
 . have:=List.all_takeWhile (p:=isF) (l:=r.drop (sgn r))
   rw[List.all_eq_true] at this
   have:=this c hc
   unfold isF at this
   rw[Bool.and_eq_true] at this
   exact⟨of_decide_eq_true this.1,of_decide_eq_true this.2⟩
 . unfold bM;rw[z];rfl
section
variable {P:Program}{w:World}{K:W.Frag}{mg:Str->Option Value}{base:Heap}
variable {qj uX xU xV xW xX xY:Addr}{qm uY xZ yc yd yg yh:FuncData}{tM tL tF tS:Tok}
theorem Vt:bR ["text","place","end"] ["text","place"] (aN (top 21)):=cA
theorem afo (T:Tb mg)(TG:Gb mg tM tL tF tS)(qp:Dn K mg "word_at" ["text","place"] (top 21) xU xZ)(gh:Dn K mg "no_piece" ["text","place"] (top 19) qj qm)(uZ:aB P w K mg base aO (1) qj qm ["text","place"] (BP)):aB P w K mg base aO (2) xU xZ ["text","place"] (Vl):=by
 have afp:=TG.si
 refine qp.F.ok Vt (λvs H Q E h=>?_) (λcdv A outer s H vs Q E hr h=>?_)
 . obtain⟨t,p,rfl,_⟩:=h
   rfl
 obtain⟨t,p,rfl,hl,Vu,q⟩:=h
 have nd:=Vt.nd
 have hp:=Hr Vu
 refine⟨_,(aC (aQ (i:=2) nd rfl (Or.inl rfl) (iZ PySem.F.plainAttrs_str PySem.F.slot_str_find PySem.F.type_str_find ae3 (pv 0) (aj aD (aj (aF gK (pv 1) au) ak))))
  (aC (bF (PW.pt (pJ (bh cj (pv 2) (Ag Ah au) (bw _)) (rJ (bh pP (aF lU (aF lU (pv 2) (pv 1)) au) (kZ (v:=.int 40) rfl afp ⟨_,rfl⟩) (bw _))))) (aH (aW (aV uZ (hr.mono (by omega)) rfl gh.m gh.F.kp gh.b .nil aY (aj (pv 0) (aj (pv 1) ak))))) bG)
  (aH (aW (bH (aj aD (aj (lV uL (pv 0) (iY (aF gK (pv 1) au)) (iY (pv 2))) (aj (pv 1) (aj (aF gK (pv 2) au) ak))))))))),?_⟩
 have hz:(ao t).length<=sizeLine:=by rw[dB];exact sE hl
 have hf:Txt.find3 (ao t) "\"" ((p:Int)+1)=if unq (t.drop (p+1))=(t.drop (p+1)).length then -1 else((p+1+unq (t.drop (p+1)):Nat):Int):=by
  have:=ae0 (ao t) 34 (p+1) (by rw[dB];omega)
  rw[q34]
  exact this
 refine⟨_,rfl,rfl,_,rfl,_,_,rfl,rfl,_,_,_,rfl,rfl,?_⟩
 rw[hf]
 have hu:unq (t.drop (p+1))<=(t.drop (p+1)).length:=uU _ _
 have hdr:=Hs Vu
 have hno:∀v H',Same H H'->mq H' v (nG p (t.drop p))->(unq (t.drop (p+1))=(t.drop (p+1)).length\/40<unq (t.drop (p+1)))->Q v H':=λv H' s1 hv hc=>q v H' s1 (by
  unfold wordAt
  rw[if_pos hc,<-hdr];exact hv)
 by_cases z:unq (t.drop (p+1))=(t.drop (p+1)).length
 . rw[if_pos z]
   refine⟨_,rfl,_,rfl,rfl,_,rfl,?_⟩
   rw[decide_eq_true rfl]
   exact bT (bT ⟨_,rfl,_,rfl,t,p,rfl,hl,by omega,λv H' s1 hv=>hno v H' s1 hv (.inl z)⟩)
 . rw[if_neg z]
   refine⟨_,rfl,_,rfl,rfl,_,rfl,?_⟩
   rw[decide_eq_false (λe=>by injection e with e;omega)]
   refine aZ ⟨_,rfl,_,rfl,_,_,rfl,rfl,_,_,rfl,rfl,_,_,rfl,rfl,_,rfl,?_⟩
   refine bN (λc=>?_) (λc=>?_)
   . have c':=of_decide_eq_true c
     exact⟨_,rfl,_,rfl,t,p,rfl,hl,by omega,λv H' s1 hv=>hno v H' s1 hv (.inr (by omega))⟩
   . have c':¬(40:Int)<_:=λe=>c (decide_eq_true e)
     refine⟨_,rfl,_,rfl,_,_,rfl,rfl,_,rfl,_,rfl,_,rfl,_,rfl,hz,?_⟩
     refine⟨_,rfl,_,rfl,_,_,rfl,rfl,gw,λa ha=>q _ _ (Same.new ha) ⟨a,rfl,?_⟩⟩
     rw[aG]
     unfold wordAt
     rw[if_neg (by rintro(h|h);exact z h;omega)]
     have e1:Txt.slice (ao t) (some ((p:Int)+1)) (some ((p+1+unq (t.drop (p+1)):Nat):Int))=ao ((t.drop (p+1)).take (unq (t.drop (p+1)))):=by
      have:=BW t (p+1) (p+1+unq (t.drop (p+1)))
      rw[List.take_drop]
      exact this
     have e2:((p+1+unq (t.drop (p+1)):Nat):Int)+1=((p+(unq (t.drop (p+1))+2):Nat):Int):=by omega
     show some (HO.tup [.str "word",.str (Txt.slice (ao t) (some ((p:Int)+1)) (some ((p+1+unq (t.drop (p+1)):Nat):Int))),.int p,.int (((p+1+unq (t.drop (p+1)):Nat):Int)+1)])=_
     rw[e1,e2];rfl
theorem Vv:bR ["text","place","end"] ["text","place"] (aN (top 22)):=cA
theorem afq (T:Tb mg)(TG:Gb mg tM tL tF tS)(qt:Dn K mg "name_at" ["text","place"] (top 22) xV yc)(gh:Dn K mg "no_piece" ["text","place"] (top 19) qj qm)(uZ:aB P w K mg base aO (1) qj qm ["text","place"] (BP))(j5:Dn K mg "run_end" ["text","place","least","most"] (top 20) uX uY)(Ht:aB P w K mg base aO (1) uX uY ["text","place","least","most"] (Hq)):aB P w K mg base aO (2) xV yc ["text","place"] (Vm):=by
 have afr:=TG.le
 refine qt.F.ok Vv (λvs H Q E h=>?_) (λcdv A outer s H vs Q E hr h=>?_)
 . obtain⟨t,p,rfl,_⟩:=h
   rfl
 obtain⟨t,p,rfl,hl,hp,q⟩:=h
 have nd:=Vv.nd
 refine⟨_,(aC (aQ (i:=2) nd rfl (Or.inl rfl) (aV Ht (hr.mono (by omega)) rfl j5.m j5.F.kp j5.b .nil aY (aj (pv 0) (aj (pv 1) (aj aD (aj aD ak))))))
  (aC (bF (bh pP (aF lU (pv 2) (pv 1)) (kZ (v:=.int 12) rfl afr ⟨_,rfl⟩) (bw _)) (aH (aW (aV uZ (hr.mono (by omega)) rfl gh.m gh.F.kp gh.b .nil aY (aj (pv 0) (aj (pv 1) ak))))) bG)
  (aH (aW (bH (aj aD (aj (lV uL (pv 0) (iY (pv 1)) (iY (pv 2))) (aj (pv 1) (aj (pv 2) ak))))))))),?_⟩
 have hz:(ao t).length<=sizeLine:=by rw[dB];exact sE hl
 refine⟨_,rfl,_,rfl,t,p,97,122,rfl,hl,by omega,?_⟩
 have hn:((t.drop p).takeWhile (inR 97 122)).length=jc (t.drop p):=rfl
 rw[hn]
 refine⟨_,rfl,_,rfl,_,_,rfl,rfl,_,_,rfl,rfl,_,rfl,?_⟩
 refine bN (λc=>?_) (λc=>?_)
 . have c':=of_decide_eq_true c
   refine⟨_,rfl,_,rfl,t,p,rfl,hl,by omega,λv H' s1 hv=>q v H' s1 ?_⟩
   unfold su
   rw[if_pos (by omega)];exact hv
 . have c':¬(12:Int)<_:=λe=>c (decide_eq_true e)
   refine⟨_,rfl,_,rfl,_,rfl,_,rfl,_,rfl,_,rfl,hz,?_⟩
   refine⟨_,rfl,_,rfl,gw,λa ha=>q _ _ (Same.new ha) ⟨a,rfl,?_⟩⟩
   rw[aG]
   unfold su
   rw[if_neg (by omega)]
   have e1:Txt.slice (ao t) (some (p:Int)) (some ((p+jc (t.drop p):Nat):Int))=ao ((t.drop p).take (jc (t.drop p))):=by
    rw[List.take_drop];exact BW t p _
   show some (HO.tup [.str "name",.str (Txt.slice (ao t) (some (p:Int)) (some ((p+jc (t.drop p):Nat):Int))),.int p,.int ((p+jc (t.drop p):Nat):Int)])=_
   rw[e1];rfl
theorem Vw:bR ["text","place","first","end"] ["text","place"] (aN (top 23)):=cA
theorem afs (T:Tb mg)(TG:Gb mg tM tL tF tS)(qu:Dn K mg "number_at" ["text","place"] (top 23) xW yd)(gh:Dn K mg "no_piece" ["text","place"] (top 19) qj qm)(uZ:aB P w K mg base aO (1) qj qm ["text","place"] (BP))(j5:Dn K mg "run_end" ["text","place","least","most"] (top 20) uX uY)(Ht:aB P w K mg base aO (1) uX uY ["text","place","least","most"] (Hq)):aB P w K mg base aO (2) xW yd ["text","place"] (Vn):=by
 have aft:=TG.fi
 refine qu.F.ok Vw (λvs H Q E h=>?_) (λcdv A outer s H vs Q E hr h=>?_)
 . obtain⟨t,p,rfl,_⟩:=h
   rfl
 obtain⟨t,p,rfl,hl,hp,q⟩:=h
 have nd:=Vw.nd
 refine⟨_,(aC (aQ (i:=2) nd rfl (Or.inl rfl) (Rx (bh cj (aU jY (pv 0) (pv 1) (λ_ _=>rfl)) aD (bw _)) (aF gK (pv 1) au) (pv 1)))
  (aC (aQ (i:=3) nd rfl (Or.inl rfl) (aV Ht (hr.mono (by omega)) rfl j5.m j5.F.kp j5.b .nil aY (aj (pv 0) (aj (pv 2) (aj aD (aj aD ak))))))
  (aC (bF (PW.pt (pJ (bh cj (pv 3) (pv 2) (bw _)) (rJ (bh pP (aF lU (pv 3) (pv 2)) (kZ (v:=.int 80) rfl aft ⟨_,rfl⟩) (bw _))))) (aH (aW (aV uZ (hr.mono (by omega)) rfl gh.m gh.F.kp gh.b .nil aY (aj (pv 0) (aj (pv 1) ak))))) bG)
  (aC (bF (PW.pt (lO (bh cj (aU jY (pv 0) (pv 2) (λ_ _=>rfl)) aD (bw _)) (oA (bh wI (lV uL (pv 0) (iY (pv 1)) (iY (pv 3))) aD (bw _))))) (aH (aW (aV uZ (hr.mono (by omega)) rfl gh.m gh.F.kp gh.b .nil aY (aj (pv 0) (aj (pv 1) ak))))) bG)
  (aH (aW (bH (aj aD (aj (uI ae4 (by rfl) T.afi boot_int (aj (lV uL (pv 0) (iY (pv 1)) (iY (pv 3))) ak)) (aj (pv 1) (aj (pv 3) ak))))))))))),?_⟩
 have hz:(ao t).length<=sizeLine:=by rw[dB];exact sE hl
 have hat:∀e (h:e<t.length),cM (ao t).cps.toList (e:Int)=some (t[e]'h):=λe h=>gZ (by rw[oO];exact List.getElem?_eq_getElem h)
 have hdp:t.drop p=t[p]'hp::t.drop (p+1):=List.drop_eq_getElem_cons hp
 refine⟨_,rfl,_,rfl,_,_,_,rfl,rfl,hz,hat p hp,rfl,_,rfl,?_⟩
 by_cases c:t[p]'hp=45
 . have hsg:sgn (t.drop p)=1:=by unfold sgn;rw[hdp,c];rfl
   rw[decide_eq_true (show V.str (⟨#[t[p]'hp]⟩:Str)=V.str "-" by rw[c];rfl)]
   refine bT ⟨_,rfl,_,_,rfl,rfl,?_⟩
   have oU:bM (t.drop p)<=((t.drop p).drop (sgn (t.drop p))).length:=uU _ _
   rw[hsg,List.drop_drop,List.length_drop] at oU
   refine⟨_,rfl,_,rfl,t,p+1,48,57,rfl,hl,by omega,?_⟩
   have hn:((t.drop (p+1)).takeWhile (inR 48 57)).length=bM (t.drop p):=by
    unfold bM
    rw[hsg,List.drop_drop];rfl
   rw[hn]
   refine⟨_,rfl,_,rfl,rfl,_,rfl,?_⟩
   have hno:∀v H',Same H H'->mq H' v (nG p (t.drop p))->(bM (t.drop p)=0\/80<bM (t.drop p))->Q v H':=λv H' s1 hv hc=>q v H' s1 (by
    unfold numAt
    rw[if_pos hc];exact hv)
   by_cases z:bM (t.drop p)=0
   . rw[decide_eq_true (show V.int ((p+1+bM (t.drop p):Nat):Int)=V.int ((p:Int)+1) by rw[z];rfl)]
     exact bT (bT ⟨_,rfl,_,rfl,t,p,rfl,hl,by omega,λv H' s1 hv=>hno v H' s1 hv (.inl z)⟩)
   rw[decide_eq_false (λe=>by injection e with e;omega)]
   refine aZ ⟨_,rfl,_,rfl,_,_,rfl,rfl,_,_,rfl,rfl,_,rfl,?_⟩
   refine bN (λc2=>?_) (λc2=>?_)
   . have c':=of_decide_eq_true c2
     exact⟨_,rfl,_,rfl,t,p,rfl,hl,by omega,λv H' s1 hv=>hno v H' s1 hv (.inr (by omega))⟩
   have c':¬(80:Int)<_:=λe=>c2 (decide_eq_true e)
   have hff:p+1<t.length:=by omega
   have hnz:¬(bM (t.drop p)=0\/80<bM (t.drop p)):=by rintro(h|h);exact z h;omega
   have hsl:Txt.slice (ao t) (some (p:Int)) (some ((p+1+bM (t.drop p):Nat):Int))=ao ((t.drop p).take (sgn (t.drop p)+bM (t.drop p))):=by
    rw[hsg,List.take_drop,BW]
    congr 2
    congr 1
    omega
   have hhd:(t.drop p).drop (sgn (t.drop p))=t[p+1]'hff::t.drop (p+1+1):=by rw[hsg,List.drop_drop];exact List.drop_eq_getElem_cons hff
   refine⟨_,rfl,_,rfl,_,_,_,rfl,rfl,hz,hat (p+1) hff,rfl,_,rfl,?_⟩
   have fin:¬((t.drop p).drop (sgn (t.drop p))).head? =some 48\/(t.drop p).take (sgn (t.drop p)+bM (t.drop p))=[48]->∀a,H a=none->Q (.ref a) (upd H a (.tup [.str "number",.int (iv ((t.drop p).take (sgn (t.drop p)+bM (t.drop p)))),.int p,.int ((p+1+bM (t.drop p):Nat):Int)])):=λhh a ha=>q _ _ (Same.new ha) ⟨a,rfl,by
    rw[aG]
    unfold numAt
    rw[if_neg hnz,if_neg (by rintro⟨h1,h2⟩;rcases hh with hh|hh;exact hh h1;exact h2 hh),hsg]
    have e:((p+1+bM (t.drop p):Nat):Int)=((p+(1+bM (t.drop p)):Nat):Int):=by omega
    rw[e];rfl⟩
   have hint:=Vs (t.drop p) z (by omega)
   obtain⟨n,hn1⟩:=Option.isSome_iff_exists.mp hint
   have yj:(ao ((t.drop p).take (sgn (t.drop p)+bM (t.drop p)))).length<=640:=by
    rw[dB,List.length_take]
    have:sgn (t.drop p)<=1:=by unfold sgn;split <;> omega
    omega
   have hiv:n=iv ((t.drop p).take (sgn (t.drop p)+bM (t.drop p))):=by unfold iv;rw[hn1];rfl
   by_cases y:t[p+1]'hff=48
   . rw[decide_eq_true (show V.str (⟨#[t[p+1]'hff]⟩:Str)=V.str "0" by rw[y];rfl)]
     refine bT ⟨_,rfl,_,rfl,_,rfl,_,rfl,_,rfl,_,rfl,hz,?_⟩
     rw[hsl]
     refine⟨rfl,_,rfl,?_⟩
     by_cases x:(t.drop p).take (sgn (t.drop p)+bM (t.drop p))=[48]
     . rw[decide_eq_true (show V.str (ao ((t.drop p).take (sgn (t.drop p)+bM (t.drop p))))=V.str "0" by rw[x];rfl)]
       refine aZ ⟨_,rfl,_,rfl,_,rfl,_,rfl,_,rfl,_,rfl,hz,?_⟩
       rw[hsl]
       refine⟨_,n,rfl,yj,hn1,_,rfl,_,rfl,gw,λa ha=>?_⟩
       rw[hiv]
       exact fin (.inr x) a ha
     . rw[decide_eq_false (λe=>by injection e with e;exact x (oR e))]
       exact bT ⟨_,rfl,_,rfl,t,p,rfl,hl,by omega,λv H' s1 hv=>q v H' s1 (by
        unfold numAt
        rw[if_neg hnz,if_pos ⟨by rw[hhd,y];rfl,x⟩];exact hv)⟩
   . rw[decide_eq_false (λe=>by injection e with e;have:=oR (x:=[t[p+1]'hff]) (y:=[48]) e;injection this with this _;exact y this)]
     refine aZ (aZ ⟨_,rfl,_,rfl,_,rfl,_,rfl,_,rfl,_,rfl,hz,?_⟩)
     rw[hsl]
     refine⟨_,n,rfl,yj,hn1,_,rfl,_,rfl,gw,λa ha=>?_⟩
     rw[hiv]
     exact fin (.inl (by rw[hhd];intro e;injection e with e;exact y e)) a ha
 . have hsg:sgn (t.drop p)=0:=by unfold sgn;rw[hdp,if_neg (by intro e;injection e with e;exact c e)]
   rw[decide_eq_false (λe=>by injection e with e;have:=oR (x:=[t[p]'hp]) (y:=[45]) e;injection this with this _;exact c this)]
   refine aZ ⟨_,rfl,?_⟩
   have oU:bM (t.drop p)<=((t.drop p).drop (sgn (t.drop p))).length:=uU _ _
   rw[hsg,List.drop_drop,List.length_drop] at oU
   refine⟨_,rfl,_,rfl,t,p,48,57,rfl,hl,by omega,?_⟩
   have hn:((t.drop (p)).takeWhile (inR 48 57)).length=bM (t.drop p):=by
    unfold bM
    rw[hsg,List.drop_drop];rfl
   rw[hn]
   refine⟨_,rfl,_,rfl,rfl,_,rfl,?_⟩
   have hno:∀v H',Same H H'->mq H' v (nG p (t.drop p))->(bM (t.drop p)=0\/80<bM (t.drop p))->Q v H':=λv H' s1 hv hc=>q v H' s1 (by
    unfold numAt
    rw[if_pos hc];exact hv)
   by_cases z:bM (t.drop p)=0
   . rw[decide_eq_true (show V.int ((p+bM (t.drop p):Nat):Int)=V.int ((p:Int)) by rw[z];rfl)]
     exact bT (bT ⟨_,rfl,_,rfl,t,p,rfl,hl,by omega,λv H' s1 hv=>hno v H' s1 hv (.inl z)⟩)
   rw[decide_eq_false (λe=>by injection e with e;omega)]
   refine aZ ⟨_,rfl,_,rfl,_,_,rfl,rfl,_,_,rfl,rfl,_,rfl,?_⟩
   refine bN (λc2=>?_) (λc2=>?_)
   . have c':=of_decide_eq_true c2
     exact⟨_,rfl,_,rfl,t,p,rfl,hl,by omega,λv H' s1 hv=>hno v H' s1 hv (.inr (by omega))⟩
   have c':¬(80:Int)<_:=λe=>c2 (decide_eq_true e)
   have hff:p<t.length:=by omega
   have hnz:¬(bM (t.drop p)=0\/80<bM (t.drop p)):=by rintro(h|h);exact z h;omega
   have hsl:Txt.slice (ao t) (some (p:Int)) (some ((p+bM (t.drop p):Nat):Int))=ao ((t.drop p).take (sgn (t.drop p)+bM (t.drop p))):=by
    rw[hsg,List.take_drop,BW]
    congr 2
    congr 1
    omega
   have hhd:(t.drop p).drop (sgn (t.drop p))=t[p]'hff::t.drop (p+1):=by rw[hsg,List.drop_drop];exact List.drop_eq_getElem_cons hff
   refine⟨_,rfl,_,rfl,_,_,_,rfl,rfl,hz,hat (p) hff,rfl,_,rfl,?_⟩
   have fin:¬((t.drop p).drop (sgn (t.drop p))).head? =some 48\/(t.drop p).take (sgn (t.drop p)+bM (t.drop p))=[48]->∀a,H a=none->Q (.ref a) (upd H a (.tup [.str "number",.int (iv ((t.drop p).take (sgn (t.drop p)+bM (t.drop p)))),.int p,.int ((p+bM (t.drop p):Nat):Int)])):=λhh a ha=>q _ _ (Same.new ha) ⟨a,rfl,by
    rw[aG]
    unfold numAt
    rw[if_neg hnz,if_neg (by rintro⟨h1,h2⟩;rcases hh with hh|hh;exact hh h1;exact h2 hh),hsg]
    have e:((p+bM (t.drop p):Nat):Int)=((p+(0+bM (t.drop p)):Nat):Int):=by omega
    rw[e];rfl⟩
   have hint:=Vs (t.drop p) z (by omega)
   obtain⟨n,hn1⟩:=Option.isSome_iff_exists.mp hint
   have yj:(ao ((t.drop p).take (sgn (t.drop p)+bM (t.drop p)))).length<=640:=by
    rw[dB,List.length_take]
    have:sgn (t.drop p)<=1:=by unfold sgn;split <;> omega
    omega
   have hiv:n=iv ((t.drop p).take (sgn (t.drop p)+bM (t.drop p))):=by unfold iv;rw[hn1];rfl
   by_cases y:t[p]'hff=48
   . rw[decide_eq_true (show V.str (⟨#[t[p]'hff]⟩:Str)=V.str "0" by rw[y];rfl)]
     refine bT ⟨_,rfl,_,rfl,_,rfl,_,rfl,_,rfl,_,rfl,hz,?_⟩
     rw[hsl]
     refine⟨rfl,_,rfl,?_⟩
     by_cases x:(t.drop p).take (sgn (t.drop p)+bM (t.drop p))=[48]
     . rw[decide_eq_true (show V.str (ao ((t.drop p).take (sgn (t.drop p)+bM (t.drop p))))=V.str "0" by rw[x];rfl)]
       refine aZ ⟨_,rfl,_,rfl,_,rfl,_,rfl,_,rfl,_,rfl,hz,?_⟩
       rw[hsl]
       refine⟨_,n,rfl,yj,hn1,_,rfl,_,rfl,gw,λa ha=>?_⟩
       rw[hiv]
       exact fin (.inr x) a ha
     . rw[decide_eq_false (λe=>by injection e with e;exact x (oR e))]
       exact bT ⟨_,rfl,_,rfl,t,p,rfl,hl,by omega,λv H' s1 hv=>q v H' s1 (by
        unfold numAt
        rw[if_neg hnz,if_pos ⟨by rw[hhd,y];rfl,x⟩];exact hv)⟩
   . rw[decide_eq_false (λe=>by injection e with e;have:=oR (x:=[t[p]'hff]) (y:=[48]) e;injection this with this _;exact y this)]
     refine aZ (aZ ⟨_,rfl,_,rfl,_,rfl,_,rfl,_,rfl,_,rfl,hz,?_⟩)
     rw[hsl]
     refine⟨_,n,rfl,yj,hn1,_,rfl,_,rfl,gw,λa ha=>?_⟩
     rw[hiv]
     exact fin (.inl (by rw[hhd];intro e;injection e with e;exact y e)) a ha
end
theorem afu (c:Nat):(!(Builtin.Str.occurrences (Str.ofString "{}[]()<>:,") ⟨#[c]⟩ 0 (Str.ofString "{}[]()<>:,").length 1).isEmpty)=decide (c∈marks):=by
 rw[PySem.StrLaws.found_one]
 have:(Str.ofString "{}[]()<>:,").cps.toList=marks:=by decide +kernel
 rw[this]
section
variable {P:Program}{w:World}{K:W.Frag}{mg:Str->Option Value}{base:Heap}
variable {xU xV xW xX xY:Addr}{xZ yc yd yg yh:FuncData}{tM tL tF tS:Tok}
theorem Vx:bR ["text","place","sign"] ["text","place"] (aN (top 18)):=cA
theorem afv (T:Tb mg)(TG:Gb mg tM tL tF tS)(qw:Dn K mg "piece_at" ["text","place"] (top 18) xX yg)(qp:Dn K mg "word_at" ["text","place"] (top 21) xU xZ)(afw:aB P w K mg base aO (2) xU xZ ["text","place"] (Vl))(qt:Dn K mg "name_at" ["text","place"] (top 22) xV yc)(afx:aB P w K mg base aO (2) xV yc ["text","place"] (Vm))(qu:Dn K mg "number_at" ["text","place"] (top 23) xW yd)(afy:aB P w K mg base aO (2) xW yd ["text","place"] (Vn)):aB P w K mg base aO (3) xX yg ["text","place"] (Vo):=by
 have afz:=TG.ma
 refine qw.F.ok Vx (λvs H Q E h=>?_) (λcdv A outer s H vs Q E hr h=>?_)
 . obtain⟨t,p,c,rfl,_⟩:=h
   rfl
 obtain⟨t,p,c,rfl,hl,hc,q⟩:=h
 have nd:=Vx.nd
 refine⟨_,(aC (aQ (i:=2) nd rfl (Or.inl rfl) (aU jY (pv 0) (pv 1) (λ_ _=>rfl)))
  (aC (bF (bh Ai (pv 2) (kZ (v:=.str "{}[]()<>:,") rfl afz ⟨_,rfl⟩) (by with_unfolding_all rfl)) (aH (aW (bH (aj aD (aj (pv 2) (aj (pv 1) (aj (aF gK (pv 1) au) ak))))))) bG)
  (aC (bF (bh cj (pv 2) aD (bw _)) (aH (aW (aV afw (hr.mono (by omega)) rfl qp.m qp.F.kp qp.b .nil aY (aj (pv 0) (aj (pv 1) ak))))) bG)
  (aC (bF (PW.pt (lO (bh U_ (pv 2) aD (bw _)) (oA (bh Va (pv 2) aD (bw _))))) (aH (aW (aV afx (hr.mono (by omega)) rfl qt.m qt.F.kp qt.b .nil aY (aj (pv 0) (aj (pv 1) ak))))) bG)
  (aH (aW (aV afy (hr.mono (by omega)) rfl qu.m qu.F.kp qu.b .nil aY (aj (pv 0) (aj (pv 1) ak))))))))),?_⟩
 have hz:(ao t).length<=sizeLine:=by rw[dB];exact sE hl
 have hp:=Hr hc
 have hdp:=Hs hc
 have hat:cM (ao t).cps.toList (p:Int)=some c:=gZ (by rw[oO];exact hc)
 refine⟨_,rfl,_,rfl,_,_,_,rfl,rfl,hz,hat,?_⟩
 refine⟨_,rfl,_,_,rfl,rfl,_,rfl,?_⟩
 rw[afu]
 by_cases h1:c∈marks
 . rw[decide_eq_true h1]
   refine bT ⟨_,rfl,_,rfl,_,rfl,_,_,rfl,rfl,gw,λa ha=>q _ _ (Same.new ha) ⟨a,rfl,?_⟩⟩
   rw[aG]
   unfold dz
   rw[if_pos h1];rfl
 rw[decide_eq_false h1]
 refine aZ ⟨_,rfl,rfl,_,rfl,?_⟩
 by_cases h2:c=34
 . rw[decide_eq_true (show V.str (⟨#[c]⟩:Str)=V.str "\"" by rw[h2];rfl)]
   refine bT ⟨_,rfl,_,rfl,t,p,rfl,hl,by rw[hc,h2],λv H' s1 hv=>q v H' s1 ?_⟩
   unfold dz
   rw[if_neg h1,if_pos h2];exact hv
 rw[decide_eq_false (λe=>by injection e with e;have:=oR (x:=[c]) (y:=[34]) e;injection this with this _;exact h2 this)]
 refine aZ ⟨_,rfl,_,_,rfl,rfl,_,rfl,?_⟩
 have g1:(!decide ((⟨#[c]⟩:Str).cps.toList<(Str.ofString "a").cps.toList))=decide (97<=c):=BR c 97
 have g2:(!decide ((Str.ofString "z").cps.toList<(⟨#[c]⟩:Str).cps.toList))=decide (c<=122):=BR 122 c
 have hnum:fu c≠true->∀v H',Same H H'->mq H' v (numAt iv p (t.drop p))->Q v H':=λh3 v H' s1 hv=>q v H' s1 (by
  unfold dz
  rw[if_neg h1,if_neg h2,if_neg h3,<-hdp];exact hv)
 rw[g1]
 refine bN (λc1=>?_) (λc1=>?_)
 . refine⟨_,rfl,_,_,rfl,rfl,_,rfl,?_⟩
   rw[g2]
   refine bN (λc2=>?_) (λc2=>?_)
   . refine⟨_,rfl,_,rfl,t,p,rfl,hl,hp,λv H' s1 hv=>q v H' s1 ?_⟩
     unfold dz
     rw[if_neg h1,if_neg h2,if_pos (by unfold fu;rw[c1,c2];rfl),<-hdp];exact hv
   . exact⟨_,rfl,_,rfl,t,p,rfl,hl,hp,hnum λz=>by unfold fu at z;rw[Bool.and_eq_true] at z;exact c2 z.2⟩
 . exact aZ ⟨_,rfl,_,rfl,t,p,rfl,hl,hp,hnum λz=>by unfold fu at z;rw[Bool.and_eq_true] at z;exact c1 z.1⟩
theorem Vy:bR ["text","pieces","place"] ["text"] (aN (top 17)):=cA
theorem afA (T:Tb mg)(qy:Dn K mg "pieces_of" ["text"] (top 17) xY yh)(qw:Dn K mg "piece_at" ["text","place"] (top 18) xX yg)(afB:aB P w K mg base aO (3) xX yg ["text","place"] (Vo)):aB P w K mg base aO (4) xY yh ["text"] (Vp):=by
 refine qy.F.ok Vy (λvs H Q E h=>?_) (λcdv A outer s H vs Q E hr h=>?_)
 . obtain⟨t,rfl,_⟩:=h
   rfl
 obtain⟨t,rfl,hl,q⟩:=h
 have nd:=Vy.nd
 refine⟨_,(aC (aQ (i:=1) nd rfl (Or.inl rfl) (bJ ak))
  (aC (aQ (i:=2) nd rfl (Or.inl rfl) au)
  (aC (Ae PassesOwn.never (bh uG (pv 2) (gb uK (by rfl) T.jJ PySem.boot_len (aj (pv 0) ak)) (bw _)) (aH (bF (bh cj (aU jY (pv 0) (pv 2) (λ_ _=>rfl)) aD (bw _)) (aH (Ft (i:=2) nd rfl (Or.inl rfl) au Fv)) (aC (gW (iZ PySem.F.plainAttrs_list PySem.F.slot_list_append PySem.F.type_list_append k_ (pv 1) (aj (aV afB (hr.mono (by omega)) rfl qw.m qw.F.kp qw.b .nil aY (aj (pv 0) (aj (pv 2) ak))) ak)))
  (aH (aQ (i:=2) nd rfl (Or.inl rfl) (aU bY (aU dU (pv 1) (Ag Ah au) (λ_ _=>rfl)) au (λ_ _=>rfl))))))))
  (aC (gW (iZ PySem.F.plainAttrs_list PySem.F.slot_list_append PySem.F.type_list_append k_ (pv 1) (aj (bH (aj aD (aj aD (aj (gb uK (by rfl) T.jJ PySem.boot_len (aj (pv 0) ak)) (aj (gb uK (by rfl) T.jJ PySem.boot_len (aj (pv 0) ak)) ak))))) ak)))
  (aH (aW (pv 1))))))),?_⟩
 have hz:(ao t).length<=sizeLine:=by rw[dB];exact sE hl
 refine⟨um,λl hl0=>?_⟩
 refine⟨λm σ H'=>∃p:Nat,∃us qs,m=t.length - p/\p<=t.length/\σ=[some (.str (ao t)),some (.ref l),some (.int p)]/\(∀c o,H c=some o->H' c=some o)/\H' l=some (.lst us)/\iH H' us qs/\us.length<=p/\qs++cI iv p (t.drop p)=cI iv 0 t,⟨_,0,[],[],rfl,Nat.zero_le _,rfl,Same.new hl0,aG,.nil,Nat.zero_le _,rfl⟩,?_⟩
 rintro m σ H' ⟨p,us,qs,rfl,hp,rfl,hs,mz,hL,hus,heq⟩
 refine⟨_,rfl,_,rfl,_,rfl,hz,_,_,rfl,rfl,_,rfl,?_⟩
 rw[dB]
 refine bN (λc=>?_) (λc=>?_)
 . have c':p<t.length:=by have:=of_decide_eq_true c;omega
   have hd:t[p]? =some (t[p]'c'):=List.getElem?_eq_getElem c'
   have hat:cM (ao t).cps.toList (p:Int)=some (t[p]'c'):=gZ (by rw[oO];exact hd)
   have hdp:=Hs hd
   refine⟨_,λ_ _ z=>z,?_⟩
   refine⟨_,rfl,_,rfl,_,_,_,rfl,rfl,hz,hat,rfl,_,rfl,?_⟩
   by_cases y:t[p]'c'=32
   . rw[decide_eq_true (show V.str (⟨#[t[p]'c']⟩:Str)=V.str " " by rw[y];rfl)]
     refine bT ⟨_,rfl,_,_,rfl,rfl,t.length - (p+1),by omega,p+1,us,qs,rfl,by omega,rfl,hs,mz,hL,by omega,?_⟩
     rw[<-heq,hdp,y,Vg]
   . rw[decide_eq_false (λe=>by injection e with e;have:=oR (x:=[t[p]'c']) (y:=[32]) e;injection this with this _;exact y this)]
     refine aZ ⟨_,rfl,.inl ⟨rfl,_,aL.of mz⟩,_,rfl,_,rfl,t,p,t[p]'c',rfl,hl,hd,λv H1 s1 hv=>?_⟩
     have Vz:=s1 _ _ mz
     refine⟨l,us,v,rfl,rfl,Vz,Nat.lt_of_le_of_lt (Nat.le_trans hus (Nat.le_trans hp hl)) (by decide),?_⟩
     obtain⟨a,rfl,ha⟩:=hv
     have hal:a≠l:=fW ha Vz (by intro z;cases z)
     have⟨b1,b2⟩:=Hj (iv:=iv) (p:=p) (c:=t[p]'c') (r:=t.drop (p+1))
     rw[List.length_drop] at b2
     have BX:cM (us++[V.ref a]) (-1)=some (.ref a):=Al _ _
     refine⟨_,rfl,_,rfl,l,_,_,_,rfl,rfl,aL.of aG,BX,a,_,_,_,rfl,rfl,aM.of (by rw[aq hal];exact ha),rfl,?_⟩
     refine⟨t.length - (dz iv p (t[p]'c') (t.drop (p+1))).e,by omega,(dz iv p (t[p]'c') (t.drop (p+1))).e,us++[.ref a],qs++[dz iv p (t[p]'c') (t.drop (p+1))],rfl,by omega,rfl,λc o e=>?_,aG,?_,?_,?_⟩
     . have hcl:c≠l:=λz=>by rw[z,hl0] at e;cases e
       rw[aq hcl];exact s1 _ _ (hs _ _ e)
     . have tu:Tu H' (upd H1 l (.lst (us++[.ref a]))):=λc xs e=>by
        have hcl:c≠l:=fW e mz (by intro z;cases z)
        rw[aq hcl];exact s1 _ _ e
       exact(hL.tu tu).snoc ⟨a,rfl,by rw[aq hal];exact ha⟩
     . rw[List.length_append];show us.length+1<=_;omega
     . rw[<-heq,hdp,Bx y,List.append_assoc]
       show qs++(_::cI iv _ _)=_
       rw[<-hdp,List.drop_drop,show p+((dz iv p (t[p]'c') (t.drop (p+1))).e - p)=(dz iv p (t[p]'c') (t.drop (p+1))).e by omega]
 . have c':p=t.length:=by
    have:¬(p:Int)<(t.length:Int):=λz=>c (decide_eq_true z)
    omega
   refine⟨_,rfl,.inl ⟨rfl,_,aL.of mz⟩,_,rfl,_,rfl,hz,_,rfl,_,rfl,hz,gw,λa ha=>?_⟩
   have hal:l≠a:=aJ mz ha
   refine⟨l,us,.ref a,rfl,rfl,by rw[aq hal];exact mz,Nat.lt_of_le_of_lt (Nat.le_trans hus (Nat.le_trans hp hl)) (by decide),_,rfl,?_⟩
   refine q l (us++[.ref a]) _ (λc o e=>?_) hl0 aG ?_
   . have hcl:c≠l:=λz=>by rw[z,hl0] at e;cases e
     rw[aq hcl,aq (aJ (hs _ _ e) ha)];exact hs _ _ e
   . have tu:∀o,Tu H' (upd (upd H' a o) l (.lst (us++[.ref a]))):=λo c xs e=>by
      have hcl:c≠l:=fW e mz (by intro z;cases z)
      rw[aq hcl,aq (aJ e ha)];exact e
     rw[<-heq,c',List.drop_length,Vf]
     refine(hL.tu (tu _)).snoc ⟨a,rfl,?_⟩
     rw[aq (Ne.symm hal),aG,dB];rfl
end
noncomputable abbrev BZ:List Value:=[.type "ValueError",.type "Exception",.type "BaseException",.type "object"]
structure sG (K:W.Frag) (mg:Str->Option Value) (base:Heap) (C fI:Addr):Prop where
 xi:p8 base C fI BZ "ValueError.__new__"
 kp:W.keepIn K (.ref C)=true
 m:mg "NoText"=some (.ref C)
 fld:qd K C "place"
 cls:j4 K C
theorem mC {P:Program}{w:World}{K:W.Frag}{mg:Str->Option Value}{base:Heap}{x qual:Str}{st:Stmt}{f:Addr}{fd:FuncData}{N ps:List Str}{k:Nat}{sp:Sp}(F:jZ K x qual st f fd)(S:bR N ps (aN st))(len:∀vs H Q E,sp vs H Q E->vs.length=ps.length)
 (hbody:∀(cdv:Value) (A:Around) (outer:List Env) (s:Shared) (H:Hp) (vs:List V) (Q:VK) (E:XK),cW k (A.deeper (envOfC qual (aN st) s.heap.objs.size f cdv))->sp vs H Q E->
   ∃t,gU (fZ (bK P w) P w K mg base N qual (aN st) f cdv A outer s H E) (bI st) t/\t { nx:=λ_ H'=>Q .non H',rt:=Q } (start N vs) H):aB P w K mg base (bK P w) (k+1) f fd ps sp:=by
 obtain⟨oc,od,kV,doc,pm,an,cdv,ct,osl,rfl,lk,hcd⟩:=F.ex
 refine Ak lk hcd S len λA outer s H vs Q E hr hsp=>?_
 exact hbody cdv A outer s H vs Q E hr hsp
structure jL (K:W.Frag) (mg:Str->Option Value) (C fI fA fT fG fP fM fE fL:Addr):Prop where
 ct:Cls K C
 n1:oG K C "pieces"
 n2:oG K C "reached"
 mkk:Mk K C fI
 m:mg "Reader"=some (.ref C)
 a:Meth K C "is_at" fA
 t:Meth K C "taken" fT
 g:Meth K C "taken_among" fG
 p:Meth K C "passed" fP
 k:Meth K C "pass_mark" fM
 e:Meth K C "ask_end" fE
 l:Meth K C "listed" fL
structure fB (H:Hp) (C r dx l:Addr) (us:List V) (qs:List Pc) (i:Nat):Prop where
 ob:H r=some (.ins C dx [("pieces",.ref l),("reached",.int i)])
 ls:H l=some (.lst us)
 pl:iH H us qs
 le:qs.length<=200000
theorem iH.at {H:Hp}:∀{us:List V}{qs:List Pc}{i:Nat}{q:Pc},iH H us qs->qs[i]? =some q->∃a,us[i]? =some (.ref a)/\H a=some (.tup (Vj q))
 |_,_,i,q,.nil,e=>by simp at e
 |_,_,0,q,.cons ⟨a,ea,h⟩ t,e=>by
  injection e with e
  subst e
  exact⟨a,by rw[ea];rfl,h⟩
 |_,_,i+1,q,.cons _ t,e=>by
  obtain⟨a,h1,h2⟩:=iH.at (i:=i) t e
  exact⟨a,h1,h2⟩
noncomputable def Mv (H H':Hp) (C r dx l:Addr) (i:Nat):Prop:=(∀c o,c≠r->H c=some o->H' c=some o)/\H' r=some (.ins C dx [("pieces",.ref l),("reached",.int i)])
theorem fB.mv {H H':Hp}{C r dx l:Addr}{us:List V}{qs:List Pc}{i j:Nat}(h:fB H C r dx l us qs i)(m:Mv H H' C r dx l j):fB H' C r dx l us qs j:=by
 have hl:l≠r:=fW h.ls h.ob (by intro z;cases z)
 exact⟨m.2,m.1 _ _ hl h.ls,h.pl.tu λc xs e=>m.1 _ _ (fW e h.ob (by intro z;cases z)) e,h.le⟩
theorem fB.same {H H':Hp}{C r dx l:Addr}{us:List V}{qs:List Pc}{i:Nat}(h:fB H C r dx l us qs i)(m:Same H H'):fB H' C r dx l us qs i:=
 ⟨m _ _ h.ob,m _ _ h.ls,h.pl.tu (Tu.of m),h.le⟩
noncomputable def u0 (C:Addr):Sp:=λvs H Q _=>∃a,∃n:Int,vs=[.ref a,.int n]/\H a=some (oM a C)/\∀dx H',dx≠a->(∀c o,c≠a->H c=some o->H' c=some o)->H' a=some (MadeX a C dx)->H' dx=some (.xd [("place",.int n)])->Q .non H'
noncomputable def VB (C:Addr):Sp:=λvs H Q _=>∃x dx,∃t:Tx,vs=[.ref x,.str (ao t)]/\t.length<=100000/\H x=some (.ins C dx [])/\∀l us H',(∀c o,c≠x->H c=some o->H' c=some o)->fB H' C x dx l us (cI iv 0 t) 0->Q .non H'
noncomputable def u9 (C:Addr):Sp:=λvs H Q _=>∃r dx l us qs i q h_ th,vs=[.ref r,.str h_,.str th]/\fB H C r dx l us qs i/\qs[i]? =some q/\Q (.bl (decide (dH q.sort=h_) && decide (q.th.V=.str th))) H
noncomputable def Rf (cN:Addr) (H:Hp) (n:Nat) (E:XK):Prop:=∀d H',Same H H'->H' d=some (.xd [("place",.int n)])->E (.ref cN) (some d) H'
noncomputable def yp (C cN:Addr):Sp:=λvs H Q E=>∃r dx l us qs i q h_,vs=[.ref r,.str h_]/\fB H C r dx l us qs i/\qs[i]? =some q/\((dH q.sort=h_/\∀H',Mv H H' C r dx l (i+1)->Q q.th.V H')\/(dH q.sort≠h_/\Rf cN H q.b E))
noncomputable def u_ (C:Addr):Sp:=λvs H Q _=>∃r dx l us qs i q h_ th,vs=[.ref r,.str h_,.str th]/\fB H C r dx l us qs i/\qs[i]? =some q/\(((dH q.sort=h_/\q.th.V=.str th)/\∀H',Mv H H' C r dx l (i+1)->Q (.bl true) H')\/(¬(dH q.sort=h_/\q.th.V=.str th)/\Q (.bl false) H))
noncomputable def B_ (C cN:Addr):Sp:=λvs H Q E=>∃r dx l us qs i q th,vs=[.ref r,.str th]/\fB H C r dx l us qs i/\qs[i]? =some q/\(((dH q.sort="mark"/\q.th.V=.str th)/\∀H',Mv H H' C r dx l (i+1)->Q .non H')\/(¬(dH q.sort="mark"/\q.th.V=.str th)/\Rf cN H q.b E))
noncomputable def VD (C cN:Addr):Sp:=λvs H Q E=>∃r dx l us qs i q,vs=[.ref r]/\fB H C r dx l us qs i/\qs[i]? =some q/\(((dH q.sort="end"/\q.th.V=.str "")/\Q .non H)\/(¬(dH q.sort="end"/\q.th.V=.str "")/\Rf cN H q.b E))
theorem Hu (iv:Tx->Int):∀(f p:Nat) (r:Tx),(toks iv f p r).length<=f+1
 |f,p,[]=>by cases f <;> exact Nat.le_add_left _ _
 |0,p,_::_=>Nat.zero_le _
 |f+1,p,c::r=>by
  show(if c=32 then toks iv f (p+1) r else _::toks iv f _ _).length<=_
  split
  . have:=Hu iv f (p+1) r;omega
  . have:=Hu iv f (dz iv p c r).e ((c::r).drop ((dz iv p c r).e - p))
    rw[List.length_cons];omega
theorem afD (iv:Tx->Int)(p:Nat)(r:Tx):(cI iv p r).length<=r.length+1:=Hu iv _ _ _
theorem afE (t:Th)(x:Str):FT t.V (.str x)=true:=by cases t <;> rfl
theorem wH (a b:Str):decide (V.str a=V.str b)=decide (a=b):=by
 by_cases h:a=b
 . rw[decide_eq_true h,decide_eq_true (by rw[h])]
 . rw[decide_eq_false h,decide_eq_false (λe=>by injection e with e;exact h e)]
theorem Ca {cN:Addr}{H:Hp}{n:Nat}{E:XK}(h:Rf cN H n E)(a:Addr)(ha:H a=none):u0 cN [.ref a,.int n] (upd H a (oM a cN)) (λv H2=>v=.non/\∃dx,H2 a=some (MadeX a cN dx)/\E (.ref cN) (some dx) (rem H2 a)) E0:=by
 refine⟨a,n,rfl,aG,λdx H' hda keep hMa hdx=>⟨rfl,dx,hMa,h dx _ (λc o e=>?_) (by rw[oN hda];exact hdx)⟩⟩
 have hca:=aJ e ha
 rw[oN hca]
 exact keep c o hca (by rw[aq hca];exact e)
section
variable {P:Program}{w:World}{K:W.Frag}{mg:Str->Option Value}{base:Heap}
variable {C cN:Addr}
theorem VF:bR ["self","place"] ["self","place"] (aN (aR 4 0)):=cA
theorem afG (T:Tb mg)(XC:sG K mg base cN jx)(jy:Dm K "__init__" "NoText.__init__" ["self","place"] (aR 4 0) jx oV):aB P w K mg base aO (1) jx oV ["self","place"] (u0 cN):=by
 refine jy.F.ok VF (λvs H Q E h=>?_) (λcdv A outer s H vs Q E hr h=>?_)
 . obtain⟨a,n,rfl,_⟩:=h
   rfl
 obtain⟨a,n,rfl,ha,q⟩:=h
 have nd:=VF.nd
 refine⟨_,(aH (aeU (pv 0) (pv 1) rfl)),?_⟩
 refine⟨_,rfl,_,rfl,a,cN,rfl,ha,XC.fld,λdx hdx hda=>?_⟩
 refine q dx _ hda (λc o hc e=>?_) aG ?_
 . rw[aq hc,aq (aJ e hdx)];exact e
 . rw[aq hda,aG]
theorem VG:bR ["self","text"] ["self","text"] (aN (aR 24 0)):=cA
theorem afH (T:Tb mg)(RD:jL K mg C jd dZ fH ig d8 gC je iI)(vd:Dm K "__init__" "Reader.__init__" ["self","text"] (aR 24 0) jd Hv)(qy:Dn K mg "pieces_of" ["text"] (top 17) xY yh)(afI:aB P w K mg base aO (4) xY yh ["text"] (Vp)):aB P w K mg base aO (5) jd Hv ["self","text"] (VB C):=by
 refine vd.F.ok VG (λvs H Q E h=>?_) (λcdv A outer s H vs Q E hr h=>?_)
 . obtain⟨x,dx,t,rfl,_⟩:=h
   rfl
 obtain⟨x,dx,t,rfl,hl,hx,q⟩:=h
 have nd:=VG.nd
 refine⟨_,(aC (SJ (pv 0) (aV afI (hr.mono (by omega)) rfl qy.m qy.F.kp qy.b .nil aY (aj (pv 1) ak)) rfl)
  (aH (SJ (pv 0) au rfl))),?_⟩
 refine⟨_,rfl,t,rfl,hl,λl us H1 s1 hl0 mz hL=>?_⟩
 have hx1:=s1 _ _ hx
 have hlx:l≠x:=fW mz hx1 (by intro z;cases z)
 refine⟨_,rfl,x,C,dx,[],rfl,hx1,RD.ct,RD.n1,by decide,?_⟩
 refine⟨_,rfl,x,C,dx,_,rfl,aG,RD.ct,RD.n2,by show 1<1000;decide,?_⟩
 have hk:∀o1 o2 c o,c≠x->H1 c=some o->upd (upd H1 x o1) x o2 c=some o:=λo1 o2 c o hc e=>by rw[aq hc,aq hc];exact e
 refine q l us _ (λc o hc e=>hk _ _ c o hc (s1 _ _ e)) ⟨aG,hk _ _ _ _ hlx mz,hL.tu λc xs e=>hk _ _ _ _ (fW e hx1 (by intro z;cases z)) e,?_⟩
 have:=afD iv 0 t
 omega
theorem VH:bR ["self","sort","thing","piece"] ["self","sort","thing"] (aN (aR 24 1)):=cA
theorem afJ (T:Tb mg)(RD:jL K mg C jd dZ fH ig d8 gC je iI)(gD:Dm K "is_at" "Reader.is_at" ["self","sort","thing"] (aR 24 1) dZ mD):aB P w K mg base aO (1) dZ mD ["self","sort","thing"] (u9 C):=by
 refine gD.F.ok VH (λvs H Q E h=>?_) (λcdv A outer s H vs Q E hr h=>?_)
 . obtain⟨r,dx,l,us,qs,i,q,h_,th,rfl,_⟩:=h
   rfl
 obtain⟨r,dx,l,us,qs,i,q,h_,th,rfl,hR,hq,fin⟩:=h
 have nd:=VH.nd
 refine⟨_,(aC (aQ (i:=3) nd rfl (Or.inl rfl) (aU dU (nq (pv 0) rfl) (nq (pv 0) rfl) (λ_ _=>rfl)))
  (aH (aW (aco (wJ cj (aU bY (pv 3) au (λ_ _=>rfl)) (pv 1) (bw _)) (Rv (wJ cj (aU bY (pv 3) au (λ_ _=>rfl)) (pv 2) (bw _))))))),?_⟩
 obtain⟨a,hu,ha⟩:=hR.pl.at hq
 refine⟨_,rfl,r,C,dx,_,_,rfl,hR.ob,RD.ct,RD.n1,rfl,_,rfl,r,C,dx,_,_,rfl,hR.ob,RD.ct,RD.n2,rfl,l,us,_,_,rfl,rfl,aL.of hR.ls,gZ hu,?_⟩
 refine⟨_,rfl,a,_,_,_,rfl,rfl,aM.of ha,rfl,_,rfl,rfl,?_⟩
 rw[wH]
 refine⟨_,rfl,?_⟩
 by_cases h1:dH q.sort=h_
 . rw[decide_eq_true h1] at fin ⊢
   refine bT ⟨_,rfl,a,_,_,_,rfl,rfl,aM.of ha,rfl,_,rfl,afE _ _,?_⟩
   exact fin
 . rw[decide_eq_false h1] at fin ⊢
   exact aZ fin
theorem VJ:bR ["self","sort","piece"] ["self","sort"] (aN (aR 24 3)):=cA
theorem afK (T:Tb mg)(RD:jL K mg C jd dZ fH ig d8 gC je iI)(XC:sG K mg base cN jx)(iJ:Dm K "taken" "Reader.taken" ["self","sort"] (aR 24 3) fH oW)(jy:Dm K "__init__" "NoText.__init__" ["self","place"] (aR 4 0) jx oV)(sH:aB P w K mg base aO (1) jx oV ["self","place"] (u0 cN)):aB P w K mg base (bK P w) (3+1) fH oW ["self","sort"] (yp C cN):=by
 refine mC iJ.F VJ (λvs H Q E h=>?_) (λcdv A outer s H vs Q E hr h=>?_)
 . obtain⟨r,dx,l,us,qs,i,q,h_,rfl,_⟩:=h
   rfl
 obtain⟨r,dx,l,us,qs,i,q,h_,rfl,hR,hq,fin⟩:=h
 have nd:=VJ.nd
 refine⟨_,(aC (aQ (i:=2) nd rfl (Or.inl rfl) (aU dU (nq (pv 0) rfl) (nq (pv 0) rfl) (λ_ _=>rfl)))
  (aC (bF (bh wI (aU bY (pv 2) au (λ_ _=>rfl)) (pv 1) (bw _)) (aH (Bp rfl XC.xi PySem.F.excBase_ValueError XC.kp sH (hr.mono (by omega)) rfl rfl XC.m jy.b Bq (aj (aU bY (pv 2) au (λ_ _=>rfl)) ak))) bG)
  (aC (SM (pv 0) au SN)
  (aH (aW (aU bY (pv 2) au (λ_ _=>rfl))))))),?_⟩
 obtain⟨a,hu,ha⟩:=hR.pl.at hq
 refine⟨_,rfl,r,C,dx,_,_,rfl,hR.ob,RD.ct,RD.n1,rfl,_,rfl,r,C,dx,_,_,rfl,hR.ob,RD.ct,RD.n2,rfl,l,us,_,_,rfl,rfl,aL.of hR.ls,gZ hu,?_⟩
 refine⟨_,rfl,a,_,_,_,rfl,rfl,aM.of ha,rfl,_,rfl,rfl,_,rfl,?_⟩
 rw[wH]
 rcases fin with⟨h1,fin⟩|⟨h1,fin⟩
 . rw[decide_eq_true h1]
   refine aZ ⟨_,rfl,r,C,dx,_,_,rfl,hR.ob,RD.ct,RD.n2,rfl,_,_,rfl,rfl,dx,_,hR.ob,by show 2<1000;decide,?_⟩
   have hne:a≠r:=fW ha hR.ob (by intro z;cases z)
   refine⟨_,rfl,a,_,_,_,rfl,rfl,aM.of (by rw[aq hne];exact ha),rfl,fin _ ⟨λc o hc e=>by rw[aq hc];exact e,aG⟩⟩
 . rw[decide_eq_false h1]
   exact bT ⟨_,rfl,a,_,_,_,rfl,rfl,aM.of ha,rfl,cJ,λb hb=>Ca fin b hb⟩
theorem VL:bR ["self","sort","thing"] ["self","sort","thing"] (aN (aR 24 5)):=cA
theorem afL (T:Tb mg)(RD:jL K mg C jd dZ fH ig d8 gC je iI)(gj:Dm K "passed" "Reader.passed" ["self","sort","thing"] (aR 24 5) d8 mF)(gD:Dm K "is_at" "Reader.is_at" ["self","sort","thing"] (aR 24 1) dZ mD)(j6:aB P w K mg base aO (1) dZ mD ["self","sort","thing"] (u9 C)):aB P w K mg base aO (2) d8 mF ["self","sort","thing"] (u_ C):=by
 have CT:=RD.ct
 have sI:=RD.a
 refine gj.F.ok VL (λvs H Q E h=>?_) (λcdv A outer s H vs Q E hr h=>?_)
 . obtain⟨r,dx,l,us,qs,i,q,h_,th,rfl,_⟩:=h
   rfl
 obtain⟨r,dx,l,us,qs,i,q,h_,th,rfl,hR,hq,fin⟩:=h
 have nd:=VL.nd
 refine⟨_,(aC (bF (oE (iV (gM (pv 0) CT sI j6 (hr.mono (by omega)) gD.b .nil aY (aj (pv 1) (aj (pv 2) ak))))) (aH (aW rG)) bG)
  (aC (SM (pv 0) au SN)
  (aH (aW rG)))),?_⟩
 refine⟨_,rfl,r,dx,_,rfl,hR.ob,rfl,_,rfl,_,rfl,r,dx,l,us,qs,i,q,h_,th,rfl,hR,hq,?_⟩
 refine⟨_,rfl,?_⟩
 rw[<-Bool.decide_and]
 rcases fin with⟨h1,fin⟩|⟨h1,fin⟩
 . rw[decide_eq_true h1]
   exact aZ ⟨_,rfl,r,C,dx,_,_,rfl,hR.ob,RD.ct,RD.n2,rfl,_,_,rfl,rfl,dx,_,hR.ob,by show 2<1000;decide,fin _ ⟨λc o hc e=>by rw[aq hc];exact e,aG⟩⟩
 . rw[decide_eq_false h1]
   exact bT fin
theorem VN:bR ["self","mark"] ["self","mark"] (aN (aR 24 6)):=cA
theorem afM (T:Tb mg)(RD:jL K mg C jd dZ fH ig d8 gC je iI)(XC:sG K mg base cN jx)(jM:Dm K "pass_mark" "Reader.pass_mark" ["self","mark"] (aR 24 6) gC sJ)(gj:Dm K "passed" "Reader.passed" ["self","sort","thing"] (aR 24 5) d8 mF)(jz:aB P w K mg base aO (2) d8 mF ["self","sort","thing"] (u_ C))(jy:Dm K "__init__" "NoText.__init__" ["self","place"] (aR 4 0) jx oV)(sH:aB P w K mg base aO (1) jx oV ["self","place"] (u0 cN)):aB P w K mg base (bK P w) (3+1) gC sJ ["self","mark"] (B_ C cN):=by
 have CT:=RD.ct
 have sO:=RD.p
 refine mC jM.F VN (λvs H Q E h=>?_) (λcdv A outer s H vs Q E hr h=>?_)
 . obtain⟨r,dx,l,us,qs,i,q,th,rfl,_⟩:=h
   rfl
 obtain⟨r,dx,l,us,qs,i,q,th,rfl,hR,hq,fin⟩:=h
 have nd:=VN.nd
 refine⟨_,(aH (bF (oE (iV (gM (pv 0) CT sO jz (hr.mono (by omega)) gj.b .nil aY (aj aD (aj (pv 1) ak))))) (aH (Bp rfl XC.xi PySem.F.excBase_ValueError XC.kp sH (hr.mono (by omega)) rfl rfl XC.m jy.b Bq (aj (aU bY (aU dU (nq (pv 0) rfl) (nq (pv 0) rfl) (λ_ _=>rfl)) au (λ_ _=>rfl)) ak))) bG)),?_⟩
 obtain⟨a,hu,ha⟩:=hR.pl.at hq
 refine⟨_,rfl,r,dx,_,rfl,hR.ob,rfl,_,rfl,r,dx,l,us,qs,i,q,"mark",th,rfl,hR,hq,?_⟩
 rcases fin with⟨h1,fin⟩|⟨h1,fin⟩
 . exact .inl ⟨h1,λH' m=>⟨_,rfl,aZ (fin H' m)⟩⟩
 . refine .inr ⟨h1,_,rfl,bT ?_⟩
   refine⟨_,rfl,r,C,dx,_,_,rfl,hR.ob,RD.ct,RD.n1,rfl,_,rfl,r,C,dx,_,_,rfl,hR.ob,RD.ct,RD.n2,rfl,l,us,_,_,rfl,rfl,aL.of hR.ls,gZ hu,a,_,_,_,rfl,rfl,aM.of ha,rfl,cJ,λb hb=>Ca fin b hb⟩
theorem VP:bR ["self"] ["self"] (aN (aR 24 7)):=cA
theorem afN (T:Tb mg)(RD:jL K mg C jd dZ fH ig d8 gC je iI)(XC:sG K mg base cN jx)(vf:Dm K "ask_end" "Reader.ask_end" ["self"] (aR 24 7) je Hw)(gD:Dm K "is_at" "Reader.is_at" ["self","sort","thing"] (aR 24 1) dZ mD)(j6:aB P w K mg base aO (1) dZ mD ["self","sort","thing"] (u9 C))(jy:Dm K "__init__" "NoText.__init__" ["self","place"] (aR 4 0) jx oV)(sH:aB P w K mg base aO (1) jx oV ["self","place"] (u0 cN)):aB P w K mg base (bK P w) (3+1) je Hw ["self"] (VD C cN):=by
 have CT:=RD.ct
 have sI:=RD.a
 refine mC vf.F VP (λvs H Q E h=>?_) (λcdv A outer s H vs Q E hr h=>?_)
 . obtain⟨r,dx,l,us,qs,i,q,rfl,_⟩:=h
   rfl
 obtain⟨r,dx,l,us,qs,i,q,rfl,hR,hq,fin⟩:=h
 have nd:=VP.nd
 refine⟨_,(aH (bF (oE (iV (gM (pv 0) CT sI j6 (hr.mono (by omega)) gD.b .nil aY (aj aD (aj aD ak))))) (aH (Bp rfl XC.xi PySem.F.excBase_ValueError XC.kp sH (hr.mono (by omega)) rfl rfl XC.m jy.b Bq (aj (aU bY (aU dU (nq (pv 0) rfl) (nq (pv 0) rfl) (λ_ _=>rfl)) au (λ_ _=>rfl)) ak))) bG)),?_⟩
 obtain⟨a,hu,ha⟩:=hR.pl.at hq
 refine⟨_,rfl,r,dx,_,rfl,hR.ob,rfl,r,dx,l,us,qs,i,q,"end","",rfl,hR,hq,_,rfl,?_⟩
 rw[<-Bool.decide_and]
 rcases fin with⟨h1,fin⟩|⟨h1,fin⟩
 . rw[decide_eq_true h1]
   exact aZ fin
 . rw[decide_eq_false h1]
   exact bT ⟨_,rfl,r,C,dx,_,_,rfl,hR.ob,RD.ct,RD.n1,rfl,_,rfl,r,C,dx,_,_,rfl,hR.ob,RD.ct,RD.n2,rfl,l,us,_,_,rfl,rfl,aL.of hR.ls,gZ hu,a,_,_,_,rfl,rfl,aM.of ha,rfl,cJ,λb hb=>Ca fin b hb⟩
end
theorem afO (f:Nat->Bool){x r:Tx}(hx:∀c∈x,f c=true)(hr:∀d,r.head? =some d->f d=false):(x++r).takeWhile f=x:=by
 rw[List.takeWhile_append_of_pos hx]
 cases r with
 |nil=>simp
 |cons d r=>rw[List.takeWhile_cons_of_neg (by rw[hr d rfl];decide)];simp
structure Tk where
 sort:Nat
 th:Th
 tx:Tx
noncomputable def Hx (sort:Nat) (r:Tx):Prop:=∀d,r.head? =some d->(sort=4->fu d=false)/\(sort=5->isF d=false)
noncomputable def vg (t:Tk):Prop:=∃c x',t.tx=c::x'/\c≠32/\∀p r,Hx t.sort r->dz iv p c (x'++r)=⟨t.sort,t.th,p,p+t.tx.length⟩
noncomputable def mkT (c:Nat):Tk:=⟨2,.str [c],[c]⟩
noncomputable def aK (x:Tx):Tk:=⟨4,.str x,x⟩
theorem afP {c:Nat}(h:c∈marks):vg (mkT c):=by
 refine⟨c,[],rfl,?_,λp r _=>?_⟩
 . rintro rfl;revert h;decide
 . unfold dz;rw[if_pos h];rfl
noncomputable def bZ (x:Tx):Prop:=x≠[]/\x.length<=12/\∀c∈x,fu c=true
theorem afQ {x:Tx}(h:bZ x):vg (aK x):=by
 obtain⟨h0,h1,h2⟩:=h
 cases x with
 |nil=>exact absurd rfl h0
 |cons c x=>
  have hc:=afh c (h2 c List.mem_cons_self)
  refine⟨c,x,rfl,hc.2.2,λp r hr=>?_⟩
  have ht:(c::x++r).takeWhile fu=c::x:=afO fu h2 λd hd=>(hr d hd).1 rfl
  have hn:jc (c::(x++r))=(c::x).length:=by unfold jc;rw[<-List.cons_append,ht]
  unfold dz
  rw[if_neg hc.1,if_neg hc.2.1,if_pos (h2 c List.mem_cons_self)]
  unfold su
  rw[hn,if_neg (Nat.not_lt.mpr h1),<-List.cons_append,List.take_left' rfl]
  rfl
noncomputable def spread:List (Nat × Tk)->Nat->Tx
 |[],j=>List.replicate j 32
 |(b,t)::r,j=>List.replicate b 32++(t.tx++spread r j)
noncomputable def vh:List (Nat × Tk)->Prop
 |[]=>True
 |[_]=>True
 |t::u::r=>((t.2.sort≠4/\t.2.sort≠5)\/u.2.sort=2\/1<=u.1)/\vh (u::r)
noncomputable def yq (qs:List Pc) (i:Nat) (ts:List Tk):Prop:=∀k t,ts[k]? =some t->∃q,qs[i+k]? =some q/\q.sort=t.sort/\q.th=t.th
theorem VR {t:Tk}(h:vg t)(h2:t.sort=2){d:Nat}(hd:t.tx.head? =some d):fu d=false/\isF d=false:=by
 obtain⟨c,x',e,_,h⟩:=h
 rw[e] at hd
 cases hd
 have:=h 0 [] (λd hd=>by cases hd)
 have hs:(dz iv 0 d (x'++[])).sort=2:=by rw[this];exact h2
 unfold dz at hs
 split at hs
 . rename_i hm
   unfold marks at hm
   simp only[List.mem_cons,List.not_mem_nil,or_false] at hm
   rcases hm with e|e|e|e|e|e|e|e|e|e <;> subst e <;> decide
 . split at hs
   . unfold wordAt at hs
     split at hs <;> cases hs
   . split at hs
     . unfold su at hs
       split at hs <;> cases hs
     . unfold numAt at hs
       split at hs
       . cases hs
       . split at hs <;> cases hs
theorem V0:∀(ts:List (Nat × Tk)) (j p:Nat),(∀t∈ts,vg t.2)->vh ts->yq (cI iv p (spread ts j)) 0 (ts.map (·.2))/\∃q,(cI iv p (spread ts j))[ts.length]? =some q/\q.sort=0/\q.th=.str []
 |[],j,p,_,_=>by
  unfold spread
  rw[afg]
  exact⟨(λk t e=>by simp at e),_,rfl,rfl,rfl⟩
 |(b,t)::r,j,p,hok,hal=>by
  obtain⟨c,x',e,hc,hp⟩:=hok (b,t) List.mem_cons_self
  have e':t.tx=c::x':=e
  have hsep:Hx t.sort (spread r j):=by
   intro d hd
   cases r with
   |nil=>
    unfold spread at hd
    cases j with
    |zero=>cases hd
    |succ j=>cases hd;exact⟨λ_=>by decide,λ_=>by decide⟩
   |cons u r=>
    obtain⟨bu,u⟩:=u
    unfold spread at hd
    cases bu with
    |succ bu=>cases hd;exact⟨λ_=>by decide,λ_=>by decide⟩
    |zero=>
     have hu:=hok (0,u) (List.mem_cons_of_mem _ List.mem_cons_self)
     have hd2:u.tx.head? =some d:=by
      obtain⟨c2,x2,e2,_⟩:=hu
      have e3:u.tx=c2::x2:=e2
      rw[e3] at hd ⊢
      exact hd
     rcases hal.1 with h|h|h
     . exact⟨λz=>absurd z h.1,λz=>absurd z h.2⟩
     . have:=VR hu h hd2
       exact⟨λ_=>this.1,λ_=>this.2⟩
     . have h:1<=0:=h
       omega
  have yr:vh r:=by
   cases r with
   |nil=>trivial
   |cons u r=>exact hal.2
  have hpc:=hp (p+b) (spread r j) hsep
  have Hy:cI iv p (spread ((b,t)::r) j)=⟨t.sort,t.th,p+b,p+b+t.tx.length⟩::cI iv (p+b+t.tx.length) (spread r j):=by
   show cI iv p (List.replicate b 32++(t.tx++spread r j))=_
   rw[xQ,e',List.cons_append,Bx hc,hpc]
   show _::cI iv (p+b+t.tx.length) ((c::(x'++spread r j)).drop (p+b+t.tx.length - (p+b)))=_
   rw[Nat.add_sub_cancel_left,e',<-List.cons_append,List.drop_left' rfl]
  obtain⟨ih1,ih2⟩:=V0 r j (p+b+t.tx.length) (λu hu=>hok u (List.mem_cons_of_mem _ hu)) yr
  rw[Hy]
  refine⟨λk u eu=>?_,?_⟩
  . cases k with
    |zero=>cases eu;exact⟨_,rfl,rfl,rfl⟩
    |succ k=>
     have:=ih1 k u eu
     rw[Nat.zero_add] at this ⊢
     exact this
  . exact ih2
noncomputable def closers:List Tx:=[[44],[58],[93],[125],[41],[62]]
noncomputable def openers:List Nat:=[91,123,40,60]
noncomputable def lst (c:Nat) (x:Tx):Nat:=x.getLast?.getD c
noncomputable def jf (c:Nat) (x:Tx):Bool:=decide (x∈closers) || decide (c∈openers)
noncomputable def jn:Nat->List Tx->Tx
 |_,[]=>[]
 |c,x::r=>(if jf c x then x else 32::x)++jn (lst c x) r
noncomputable def nH:Nat->List Tx->Nat
 |c,[]=>c
 |c,x::r=>nH (lst c x) r
theorem V1:∀(c:Nat) (xs ys:List Tx),jn c (xs++ys)=jn c xs++jn (nH c xs) ys
 |_,[],_=>rfl
 |c,x::r,ys=>by
  show _++jn (lst c x) (r++ys)=(_++jn (lst c x) r)++jn (nH (lst c x) r) ys
  rw[V1,List.append_assoc]
theorem V2:∀(c:Nat) (xs ys:List Tx),nH c (xs++ys)=nH (nH c xs) ys
 |_,[],_=>rfl
 |c,x::r,ys=>by show nH (lst c x) (r++ys)=_;rw[V2];rfl
noncomputable def jb:Nat->List Tk->List (Nat × Tk)
 |_,[]=>[]
 |c,t::r=>((if jf c t.tx then 0 else 1),t)::jb (lst c t.tx) r
theorem V3:∀(c:Nat) (ts:List Tk),(jb c ts).map (·.2)=ts
 |_,[]=>rfl
 |c,t::r=>by show t::(jb _ r).map (·.2)=_;rw[V3]
theorem V4:∀(c:Nat) (ts:List Tk),spread (jb c ts) 0=jn c (ts.map (·.tx))
 |_,[]=>rfl
 |c,t::r=>by
  show List.replicate (if jf c t.tx then 0 else 1) 32++(t.tx++spread (jb _ r) 0)=(if jf c t.tx then t.tx else 32::t.tx)++jn _ (r.map (·.tx))
  rw[V4]
  cases jf c t.tx <;> rfl
noncomputable def Mid (x:Tx):Prop:=x ∉ closers/\∀c,lst c x ∉ openers
theorem V5 {c:Nat}{x:Tx}(h:x ∉ closers)(hc:c ∉ openers):jf c x=false:=by
 unfold jf;rw[decide_eq_false h,decide_eq_false hc];rfl
theorem V6 {c:Nat}{x:Tx}(hc:c∈openers):jf c x=true:=by
 unfold jf;rw[decide_eq_true hc,Bool.or_true]
theorem afR {c:Nat}{x:Tx}(h:x∈closers):jf c x=true:=by
 unfold jf;rw[decide_eq_true h];rfl
theorem V7 {c:Nat}{x:Tx}(h:x≠[]):lst c x∈x:=by
 unfold lst
 rw[List.getLast?_eq_some_getLast h]
 exact List.getLast_mem h
theorem V8 {d:Nat}(h:fu d=true):d ∉ openers/\[d] ∉ closers:=by
 unfold fu at h
 simp only[Bool.and_eq_true,decide_eq_true_eq] at h
 unfold openers closers
 simp only[List.mem_cons,List.not_mem_nil,or_false,List.cons.injEq,and_true]
 constructor <;> (rintro(e|e|e|e) <;> omega) <;> (rintro(e|e|e|e|e|e) <;> omega)
theorem afS {x:Tx}(h0:x≠[])(h1:∀c,lst c x ∉ openers)(h2:∀d,x=[d]->[d] ∉ closers):Mid x:=by
 refine⟨λh=>?_,h1⟩
 have:∃d,x=[d]:=by
  unfold closers at h
  simp only[List.mem_cons,List.not_mem_nil,or_false] at h
  rcases h with e|e|e|e|e|e <;> exact⟨_,e⟩
 obtain⟨d,e⟩:=this
 exact h2 d e (e ▸ h)
theorem V9 {x:Tx}(h:bZ x):Mid x:=by
 refine afS h.1 (λc=>(V8 (h.2.2 _ (V7 h.1))).1) λd e=>(V8 (h.2.2 d (by rw[e];exact List.mem_cons_self))).2
noncomputable abbrev sl (x:Str):Tx:=x.cps.toList
noncomputable def mG:Tx:=sl "number"
noncomputable def jN:Tx:=sl "word"
noncomputable def cY:Tx:=sl "rows"
noncomputable def eX:Tx:=sl "either"
noncomputable def jg:Tx:=sl "tree"
noncomputable def lu:Tx:=sl "by"
noncomputable def dD (b:Str):List Tk:=if b="" then [] else [aK lu,aK (sl b)]
mutual
noncomputable def Kd.tk:Kd->List Tk
 | .num=>[aK mG]
 | .bQ=>[aK jN]
 | .bW fs=>mkT 123::(fs.tk++[mkT 125])
 | .rows key b fs=>aK cY::aK (sl key)::(dD b++mkT 123::(fs.tk++[mkT 125]))
 | .tree k=>aK jg::k.tk
 | .bV fs=>aK eX::mkT 123::(fs.tk++[mkT 125])
noncomputable def Fs.tk:Fs->List Tk
 | .nil=>[]
 | .cons x k r=>aK (sl x)::mkT 58::(k.tk++r.cD)
noncomputable def Fs.cD:Fs->List Tk
 | .nil=>[]
 | .cons x k r=>mkT 44::aK (sl x)::mkT 58::(k.tk++r.cD)
end
mutual
noncomputable def Kd.N:Kd->Prop
 | .num=>True
 | .bQ=>True
 | .bW fs=>fs.N
 | .rows key b fs=>bZ (sl key)/\(b=""\/bZ (sl b))/\fs.N
 | .tree k=>k.N
 | .bV fs=>fs.N
noncomputable def Fs.N:Fs->Prop
 | .nil=>True
 | .cons x k r=>bZ (sl x)/\k.N/\r.N
end
theorem vm:bZ mG/\bZ jN/\bZ cY/\bZ eX/\bZ jg/\bZ lu:=by
 unfold bZ;decide +kernel
noncomputable def bl (c:Nat):Tx:=if c∈openers then [] else [32]
end Pb
namespace L2
open PySem PySem.Spec PyProof.Rows
theorem V_ {X:Cx}{CX:iW}{k:Nat}{f:Addr}{fd:FuncData}{ps:List Str}{sp:Sp}{ds:List Value}{dh:List V}{E:XK}{x:Str}{p pos:Pos}{tv:TE}{e:Expr}{es:List Expr}{t:TA}(F:aB X.prog X.w X.K X.mg X.base CX k f fd ps sp)(hr:cW k X.A)(hk:W.keepIn X.K (.ref f)=true)(hb:Binds X.K fd ps ds)(hd:Vals dh ds)(hx:Passes CX X E)
 (hv:PE X (.Name x p) tv) (ha:PA X (e::es) t) (he:starEach (e::es) X.env=(false,eval e X.env)::starEach es X.env:=by rfl) (hpl:(backTo pos (starEach es X.env)).any (·.1)=false:=by rfl):
 PE X (.Call (.Name x p) (e::es) [] pos) (λσ H Q=>tv σ H λv H1=>v=.ref f/\wM sp dh E t σ H1 Q):=by
 intro pins s σ H Q I h
 refine wpAny_Call_Name_kw (aP (hv pins s σ H _ I h) λu s1 ⟨x1,H1,I1,r1,e1,q1⟩=>?_)
 subst e1
 cases r1
 refine W.callWith_K (h₀:=X.base) I1.ok.mod.pC hk (aP (ha pos pins s1 σ H1 _ I1 q1) λus s2 ⟨vs,H2,I2,r,q⟩=>⟨I2.eH,?_⟩) he hpl
 exact Aj F hr hb hd hx I2 r q
end L2
namespace L2
open PySem PyProof.Rows
open PySem.Builtin PySem.Builtin.Str PySem.Builtin.Int
section
variable {X:Cx}
theorem afT:Aq X "str.lstrip" (λx vs H Q=>∃z y,x=.str z/\vs=[.str y]/\z.length<=sizeLine/\Q (.str (Txt.lstripChars z y)) H):=by
 intro pins s σ H x vs v us Q I rx rv h
 obtain⟨z,y,rfl,rfl,hz,q⟩:=h
 obtain⟨t,rfl⟩:=rx
 obtain⟨u1,rfl,t1,rfl⟩:=vals1 rv
 exact SC.lstripChars (λt' k=>⟨.str _,H,I.tok _,⟨_,rfl⟩,q⟩) hz
end
end L2
namespace Pb
open PySem L2 PyProof.Rows
noncomputable def SX (x:Tx):V:=.str (ao x)
theorem sS {x y:Tx}(h:x.length+y.length<=1000000):(ao x).length+(ao y).length<=sizeLine:=by
 rw[dB,dB];exact Nat.le_trans h (by decide)
noncomputable def PV (ts:List Tk):List V:=ts.map λt=>SX t.tx
theorem jA (a b:List Tk):PV (a++b)=PV a++PV b:=List.map_append
theorem dI (a:List Tk):(PV a).length=a.length:=List.length_map _
theorem Cd {K:PySem.W.Frag}{a:Addr}{xs:List V}{g:TG}{tb:TS}{D:Ends}{σ:L2.St}{H:Hp}(Pv:Nat->L2.St->Hp->Prop)(h0:Pv 0 σ H)(hl:∀i σ H,i<=xs.length->Pv i σ H->aL K H a xs)
 (hs:∀(i:Nat) y σ H p,xs[i]? =some y->Pv i σ H->H p=none->g (.ref p) σ (upd H p (.tup [.int i,y])) λσ2 H2=>tb { D with nx:=Pv (i+1),ct:=Pv (i+1),bk:=D.nx } σ2 H2) (hd:∀σ H,Pv xs.length σ H->D.nx σ H):
 ∃W:Nat->Nat->L2.St->Hp->Prop,(∃m,W 0 m σ H)/\∀i m σ H,W i m σ H->
  ((Ite K a).stop i H/\D.nx σ H)\/((Ite K a).go i H/\∃N:L2.St->Hp->Prop,(∀σ' H',N σ' H'->∃m',m'<m/\W (i+1) m' σ' H')/\∀x H',(Ite K a).pL i H x H'->g x σ H' λσ2 H2=>tb { D with nx:=N,ct:=N,bk:=D.nx } σ2 H2):=by
 refine⟨λi m σ H=>m=xs.length - i/\i<=xs.length/\Pv i σ H,⟨xs.length,by simp,Nat.zero_le _,h0⟩,?_⟩
 rintro i m σ H ⟨rfl,hi,p⟩
 by_cases hlt:i<xs.length
 . refine .inr ⟨⟨xs,xs[i],hl i σ H hi p,by simp[hlt]⟩,Pv (i+1),λσ' H' p'=>⟨xs.length - (i+1),by omega,rfl,hlt,p'⟩,λx H' y=>?_⟩
   obtain⟨q,y,hq,rfl,hy,rfl⟩:=y
   exact hs i y σ H q (hy xs (hl i σ H hi p)) p hq
 . have e:i=xs.length:=by omega
   subst e
   exact .inl ⟨⟨xs,hl _ σ H (Nat.le_refl _) p,Nat.le_refl _⟩,hd σ H p⟩
theorem Wa (c:Nat):∀(n:Nat) (b:Array Nat),((List.replicate n #[c]).foldl (· ++ ·) b).toList=b.toList++List.replicate n c
 |0,b=>by simp
 |n+1,b=>by
  rw[List.replicate_succ,List.foldl_cons,Wa c n,Array.toList_append,List.append_assoc]
  rfl
theorem Wb (c k:Nat):Txt.mul (ao [c]) ((k:Int)+1)=ao (List.replicate (k+1) c):=by
 rw[<-uW (Txt.mul _ _)]
 refine congrArg ao ?_
 unfold Txt.mul
 rw[if_neg (by omega)]
 by_cases h:(((k:Int)+1 == 1) || (ao [c]).length == 0)=true
 . rw[if_pos h]
   have hk:k=0:=by
    rw[dB] at h
    simp at h
    omega
   subst hk
   rfl
 . rw[if_neg h]
   have e:((k:Int)+1).toNat=k+1:=by omega
   rw[e]
   show((List.replicate (k+1) #[c]).foldl (· ++ ·) #[]).toList=_
   rw[Wa]
   rfl
theorem afU (c j:Nat):Txt.mul (ao [c]) (j:Int)=ao (List.replicate j c):=by
 cases j with
 |zero=>rfl
 |succ j=>exact Wb c j
theorem jB {A B:TS}{D:Ends}{σ:L2.St}{H:Hp}(Pv:L2.St->Hp->Prop)(hB:∀σ' H',Pv σ' H'->B D σ' H')(hA:(∀σ' H',Pv σ' H'->B D σ' H')->A { D with nx:=B D } σ H):Fo A B D σ H:=hA hB
noncomputable def vo (t:Tk):Prop:=t.tx≠[]/\t.tx.head?≠some 33/\t.tx.length<=61
theorem afV {c:Nat}(h:c≠33):vo (mkT c):=⟨List.cons_ne_nil _ _,λe=>by injection e with e;exact h e,by show 1<=61;decide⟩
theorem afW {x:Tx}(h:bZ x):vo (aK x):=by
 refine⟨h.1,λe=>?_,Nat.le_trans h.2.1 (by decide)⟩
 have:x.head? =some 33:=e
 cases x with
 |nil=>cases this
 |cons c r=>
  injection this with this
  have:=h.2.2 c List.mem_cons_self
  rw[‹c=33›] at this
  exact absurd this (by decide)
noncomputable def gF (t:Tk):Prop:=(∃c,c∈marks/\c≠33/\t=mkT c)\/∃x,bZ x/\t=aK x
theorem gF.ok {t:Tk}(h:gF t):vg t:=by
 rcases h with⟨c,hc,_,rfl⟩|⟨x,hx,rfl⟩
 . exact afP hc
 . exact afQ hx
theorem gF.tt {t:Tk}(h:gF t):vo t:=by
 rcases h with⟨c,_,hc,rfl⟩|⟨x,hx,rfl⟩
 . exact afV hc
 . exact afW hx
theorem yt {c:Nat}(h:c∈marks/\c≠33):gF (mkT c):=.inl ⟨c,h.1,h.2,rfl⟩
theorem nJ {x:Tx}(h:bZ x):gF (aK x):=.inr ⟨x,h,rfl⟩
theorem afX {b:Str}(h:b=""\/bZ (sl b)):∀t∈dD b,gF t:=by
 intro t ht
 unfold dD at ht
 by_cases hb:b=""
 . rw[if_pos hb] at ht;cases ht
 . rw[if_neg hb] at ht
   rcases List.mem_cons.mp ht with e|ht
   . rw[e];exact nJ vm.2.2.2.2.2
   . rw[List.mem_singleton.mp ht];exact nJ (h.resolve_left hb)
theorem Hz {fs:Fs}(ih:∀t∈fs.tk,gF t):∀t∈mkT 123::(fs.tk++[mkT 125]),gF t:=by
 intro t ht
 rcases List.mem_cons.mp ht with e|ht
 . rw[e];exact yt (by decide)
 . rcases List.mem_append.mp ht with ht|ht
   . exact ih t ht
   . rw[List.mem_singleton.mp ht];exact yt (by decide)
mutual
theorem Kd.j7:∀(k:Kd),k.N->∀t∈k.tk,gF t
 | .num,_,t,ht=>by rw[List.mem_singleton.mp ht];exact nJ vm.1
 | .bQ,_,t,ht=>by rw[List.mem_singleton.mp ht];exact nJ vm.2.1
 | .bW fs,h,t,ht=>Hz (Fs.j7 fs h) t ht
 | .rows key b fs,h,t,ht=>by
   rcases List.mem_cons.mp ht with e|ht
   . rw[e];exact nJ vm.2.2.1
   . rcases List.mem_cons.mp ht with e|ht
     . rw[e];exact nJ h.1
     . rcases List.mem_append.mp ht with ht|ht
       . exact afX h.2.1 t ht
       . exact Hz (Fs.j7 fs h.2.2) t ht
 | .tree k,h,t,ht=>by
   rcases List.mem_cons.mp ht with e|ht
   . rw[e];exact nJ vm.2.2.2.2.1
   . exact Kd.j7 k h t ht
 | .bV fs,h,t,ht=>by
   rcases List.mem_cons.mp ht with e|ht
   . rw[e];exact nJ vm.2.2.2.1
   . exact Hz (Fs.j7 fs h) t ht
theorem Fs.j7:∀(fs:Fs),fs.N->∀t∈fs.tk,gF t
 | .nil,_,t,ht=>by cases ht
 | .cons x k fs,h,t,ht=>by
   rcases List.mem_cons.mp ht with e|ht
   . rw[e];exact nJ h.1
   . rcases List.mem_cons.mp ht with e|ht
     . rw[e];exact yt (by decide)
     . rcases List.mem_append.mp ht with ht|ht
       . exact Kd.j7 k h.2.1 t ht
       . exact Fs.Wc fs h.2.2 t ht
theorem Fs.Wc:∀(fs:Fs),fs.N->∀t∈fs.cD,gF t
 | .nil,_,t,ht=>by cases ht
 | .cons x k fs,h,t,ht=>by
   rcases List.mem_cons.mp ht with e|ht
   . rw[e];exact yt (by decide)
   . rcases List.mem_cons.mp ht with e|ht
     . rw[e];exact nJ h.1
     . rcases List.mem_cons.mp ht with e|ht
       . rw[e];exact yt (by decide)
       . rcases List.mem_append.mp ht with ht|ht
         . exact Kd.j7 k h.2.1 t ht
         . exact Fs.Wc fs h.2.2 t ht
end
noncomputable def j8 (zs:List (Nat × Tk)):Prop:=∀(i:Nat) a b,zs[i]? =some a->zs[i+1]? =some b->a.2.sort=4->b.2.sort=4->1<=b.1
theorem j8.b:∀{zs:List (Nat × Tk)},(∀z∈zs,gF z.2)->j8 zs->vh zs
 |[],_,_=>trivial
 |[_],_,_=>trivial
 |t::u::r,hk,h=>by
  refine⟨?_,j8.b (zs:=u::r) (λz hz=>hk z (List.mem_cons_of_mem _ hz)) λi a b ha hb=>h (i+1) a b ha hb⟩
  rcases hk t List.mem_cons_self with⟨c,_,_,e⟩|⟨x,_,e⟩
  . rw[e];exact .inl ⟨show ¬(2:Nat)=4 by decide,show ¬(2:Nat)=5 by decide⟩
  . rcases hk u (List.mem_cons_of_mem _ List.mem_cons_self) with⟨c,_,_,e2⟩|⟨y,_,e2⟩
    . rw[e2];exact .inr (.inl rfl)
    . exact .inr (.inr (h 0 t u rfl rfl (by rw[e];rfl) (by rw[e2];rfl)))
theorem j8.snoc {zs:List (Nat × Tk)}{z:Nat × Tk}(h:j8 zs)(hl:∀a,zs.getLast? =some a->a.2.sort=4->z.2.sort=4->1<=z.1):j8 (zs++[z]):=by
 intro i a b ha hb h1 h2
 rcases Nat.lt_or_ge (i+1) zs.length with hi|hi
 . rw[List.getElem?_append_left (by omega)] at ha
   rw[List.getElem?_append_left hi] at hb
   exact h i a b ha hb h1 h2
 . rw[List.getElem?_append_right hi] at hb
   have hi2:i+1=zs.length:=by
    have:=(List.getElem?_eq_some_iff.mp hb).1
    simp at this;omega
   rw[show i+1 - zs.length=0 by omega] at hb
   cases hb
   rw[List.getElem?_append_left (by omega)] at ha
   refine hl a ?_ h1 h2
   rw[List.getLast?_eq_getElem?,show zs.length - 1=i by omega]
   exact ha
theorem Wd:∀(c:Nat) (ts:List Tk),(∀t∈ts,gF t)->j8 (jb c ts)
 |_,[],_=>λi a b ha=>by cases ha
 |c,t::r,h=>by
  intro i a b ha hb h1 h2
  cases i with
  |succ i=>exact Wd (lst c t.tx) r (λu hu=>h u (List.mem_cons_of_mem _ hu)) i a b ha hb h1 h2
  |zero=>
   cases r with
   |nil=>cases hb
   |cons u r=>
    cases ha
    cases hb
    have h1:t.sort=4:=h1
    have h2:u.sort=4:=h2
    rcases h t List.mem_cons_self with⟨_,_,_,e⟩|⟨x,hx,e⟩
    . rw[e] at h1;cases h1
    . rcases h u (List.mem_cons_of_mem _ List.mem_cons_self) with⟨_,_,_,e2⟩|⟨y,hy,e2⟩
      . rw[e2] at h2;cases h2
      . rw[e,e2]
        show 1<=if jf (lst c x) y then 0 else 1
        rw[V5 (V9 hy).1 ((V9 hx).2 c)];exact Nat.le_refl _
theorem HB:∀{c:Nat}{xs:List Tx},(∀x∈xs,x.length<=61)->(jn c xs).length<=62 * xs.length
 |_,[],_=>Nat.le_refl _
 |c,x::r,h=>by
  have a:=h x List.mem_cons_self
  have b:=HB (c:=lst c x) (xs:=r) λy hy=>h y (List.mem_cons_of_mem _ hy)
  show((if jf c x then x else 32::x)++jn (lst c x) r).length<=62 * (r.length+1)
  rw[List.length_append]
  cases jf c x
  . show(32::x).length+_<=_;rw[List.length_cons];omega
  . show x.length+_<=_;omega
theorem afY {c c':Nat}{x:Tx}(h:x≠[]):lst c x=lst c' x:=by
 unfold lst
 rw[List.getLast?_eq_some_getLast h];rfl
theorem Al {x:Tx}(h:x≠[]):cM (ao x).cps.toList (-1)=some (lst 0 x):=by
 rw[oO]
 have hl:=List.length_pos_iff.mpr h
 unfold cM lW
 rw[if_neg (by decide),if_pos (by omega)]
 show x[(-1+(x.length:Int)).toNat]? =_
 rw[show(-1+(x.length:Int)).toNat=x.length - 1 by omega]
 unfold lst
 rw[<-List.getLast?_eq_getElem?,List.getLast?_eq_some_getLast h];rfl
theorem afZ (c:Nat):(!(Builtin.Str.occurrences (Str.ofString "[{(<") ⟨#[c]⟩ 0 (Str.ofString "[{(<").length 1).isEmpty)=decide (c∈openers):=by
 rw[PySem.StrLaws.found_one]
 have:(Str.ofString "[{(<").cps.toList=openers:=by decide +kernel
 rw[this]
noncomputable abbrev sU:List V:=[.str ",",.str ":",.str "]",.str "}",.str ")",.str ">"]
theorem str_beq (x y:Tx):(ao x == ao y)=decide (x=y):=by
 by_cases h:x=y
 . subst h;simp
 . rw[decide_eq_false h]
   exact beq_eq_false_iff_ne.mpr λe=>h (oR e)
theorem af0 (x:Tx):inV (SX x) sU=decide (x∈closers):=by
 have e:sU=closers.map SX:=by decide +kernel
 rw[e]
 unfold inV closers
 simp only[List.map_cons,List.map_nil,List.any_cons,List.any_nil,Bool.or_false,List.mem_cons,List.not_mem_nil,or_false]
 show(ao [44] == ao x || (ao [58] == ao x || (ao [93] == ao x || (ao [125] == ao x || (ao [41] == ao x || ao [62] == ao x)))))=_
 rw[str_beq,str_beq,str_beq,str_beq,str_beq,str_beq]
 by_cases h1:[44]=x
 . subst h1;rfl
 by_cases h2:[58]=x
 . subst h2;rfl
 by_cases h3:[93]=x
 . subst h3;rfl
 by_cases h4:[125]=x
 . subst h4;rfl
 by_cases h5:[41]=x
 . subst h5;rfl
 by_cases h6:[62]=x
 . subst h6;rfl
 rw[decide_eq_false h1,decide_eq_false h2,decide_eq_false h3,decide_eq_false h4,decide_eq_false h5,decide_eq_false h6,decide_eq_false (by
  rintro(e|e|e|e|e|e)
  . exact h1 e.symm
  . exact h2 e.symm
  . exact h3 e.symm
  . exact h4 e.symm
  . exact h5 e.symm
  . exact h6 e.symm)];rfl
noncomputable def Wf:Sp:=λvs H Q _=>∃l ts,vs=[.ref l]/\H l=some (.lst (PV ts))/\(∀t∈ts,vo t)/\ts.length<=1000/\∀H',Same H H'->Q (SX (jn 40 (ts.map (·.tx)))) H'
variable {P:Program}{w:World}{K:W.Frag}{mg:Str->Option Value}{base:Heap}
theorem Wg:bR ["_law_pieces","_law_text","_law_k","_law_piece"] ["_law_pieces"] (aN (top 40)):=cA
theorem af2 (T:Tb mg)(qz:Dn K mg "_law_joined" ["_law_pieces"] (top 40) HD HF):aB P w K mg base aO (1) HD HF ["_law_pieces"] (Wf):=by
 refine qz.F.ok Wg (λvs H Q E h=>?_) (λcdv A outer s H vs Q E hr h=>?_)
 . obtain⟨l,ts,rfl,_⟩:=h
   rfl
 obtain⟨l,ts,rfl,hl,htt,hn,fin⟩:=h
 have nd:=Wg.nd
 refine⟨_,(aC (aQ (i:=1) nd rfl (Or.inl rfl) aD)
  (aC (lQ PassesOwn.never rfl (Aw rfl T.BL (aj (pv 0) ak)) (rK rfl (fX (dw (i:=2) nd rfl (Or.inl rfl)) (fX (dw (i:=3) nd rfl (Or.inl rfl)) ni))) (aH (bF (bh cj (pv 3) aD (bw _)) (aH (aQ (i:=1) nd rfl (Or.inl rfl) (aF jG (pv 1) aD))) (aH (bF (PW.pt (pJ (bh cj (pv 2) au (bw _)) (pJ (bh adv (pv 3) (bH (aj aD (aj aD (aj aD (aj aD (aj aD (aj aD ak))))))) (by with_unfolding_all rfl)) (rJ (bh Ai (aU jY (aU dU (pv 0) (aF lU (pv 2) au) (λ_ _=>rfl)) (Ag Ah au) (λ_ _=>rfl)) aD (by with_unfolding_all rfl)))))) (aH (aQ (i:=1) nd rfl (Or.inl rfl) (aF jG (pv 1) (pv 3)))) (aH (aQ (i:=1) nd rfl (Or.inl rfl) (aF jG (aF jG (pv 1) aD) (pv 3)))))))))
  (aH (aW (pv 1))))),?_⟩
 have q1:Str.ofString " "=ao [32]:=by decide +kernel
 have jl:∀i,(jn 40 ((ts.map (·.tx)).take i)).length<=62000:=λi=>by
  have:=HB (c:=40) (xs:=(ts.map (·.tx)).take i) λx hx=>by
   obtain⟨t,ht,rfl⟩:=List.mem_map.mp (List.mem_of_mem_take hx)
   exact(htt t ht).2.2
  rw[List.length_take,List.length_map] at this
  have:min i ts.length<=1000:=by omega
  omega
 refine⟨_,rfl,l,rfl,⟨_,aL.of hl⟩,Cd (xs:=PV ts) (λi σ H'=>Same H H'/\∃x y,σ=[some (.ref l),some (SX (jn 40 ((ts.map (·.tx)).take i))),x,y]) ⟨Same.refl _,_,_,rfl⟩ ?_ ?_ ?_⟩
 . rintro i σ H' _ ⟨s1,_⟩
   exact aL.of (s1 _ _ hl)
 . rintro i y σ H' pp hy ⟨s1,x0,y0,rfl⟩ hpp
   unfold PV at hy
   rw[List.getElem?_map] at hy
   obtain⟨t,ht,rfl⟩:=Option.map_eq_some_iff.mp hy
   have sV:=htt t (List.mem_of_getElem? ht)
   have hxi:(ts.map (·.tx))[i]? =some t.tx:=by rw[List.getElem?_map,ht];rfl
   have ex:(ts.map (·.tx)).take (i+1)=(ts.map (·.tx)).take i++[t.tx]:=by rw[List.take_add_one,hxi];rfl
   have s2:Same H' (upd H' pp (.tup [.int i,SX t.tx])):=Same.new hpp
   have p2:upd H' pp (.tup [.int i,SX t.tx]) pp=some (.tup [.int i,SX t.tx]):=aG
   have sa:=s1.trans s2
   generalize upd H' pp (.tup [.int i,SX t.tx])=H2 at *
   have Wh:jn 40 ((ts.map (·.tx)).take (i+1))=jn 40 ((ts.map (·.tx)).take i)++(if jf (nH 40 ((ts.map (·.tx)).take i)) t.tx then t.tx else 32::t.tx):=by
    rw[ex,V1]
    congr 1
    show _++[]=_
    rw[List.append_nil]
   have hlen:=jl i
   have Wi:=sV.2.2
   refine⟨pp,_,rfl,aM.of p2,rfl,_,_,rfl,_,_,rfl,rfl,?_⟩
   refine⟨_,rfl,rfl,_,rfl,?_⟩
   have nex:decide (SX t.tx=V.str "!(")=false:=decide_eq_false λe=>by
    have:V.str (ao t.tx)=V.str (ao [33,40]):=e
    injection this with this
    have:=oR this
    exact sV.2.1 (by rw[this];rfl)
   rw[nex]
   refine aZ ?_
   have plain:∀H3,Same H2 H3->jf (nH 40 ((ts.map (·.tx)).take i)) t.tx=true->Same H H3/\∃x y,[some (V.ref l),some (V.str (ao (jn 40 ((ts.map (·.tx)).take i))++ao t.tx)),some (.int i),some (SX t.tx)]=[some (.ref l),some (SX (jn 40 ((ts.map (·.tx)).take (i+1)))),x,y]:=λH3 s3 hb=>⟨sa.trans s3,_,_,by rw[Wh,hb,mj];rfl⟩
   have sz:(ao (jn 40 ((ts.map (·.tx)).take i))).length+(ao t.tx).length<=sizeLine:=sS (by omega)
   by_cases hi0:i=0
   . subst hi0
     refine⟨_,rfl,rfl,_,rfl,bT ⟨_,rfl,_,rfl,_,_,rfl,rfl,sz,plain H2 (Same.refl _) ?_⟩⟩
     exact V6 (show(40:Nat)∈openers by decide)
   . refine⟨_,rfl,rfl,_,rfl,?_⟩
     rw[decide_eq_false (show ¬V.int (i:Int)=V.int 0 from λe=>by injection e with e;omega)]
     refine aZ ⟨_,rfl,Fg,λk hk=>?_⟩
     have s3:Same H2 (upd H2 k (.tup sU)):=Same.new hk
     have k3:upd H2 k (.tup sU) k=some (.tup sU):=aG
     refine⟨k,sU,rfl,.inr (aM.of k3),rfl,rfl,_,rfl,?_⟩
     show if inV (SX t.tx) sU=true then _ else _
     rw[af0]
     obtain⟨tp,htp⟩:∃tp,ts[i - 1]? =some tp:=⟨_,List.getElem?_eq_getElem (by have:=(List.getElem?_eq_some_iff.mp ht).1;omega)⟩
     have hpm:=htt tp (List.mem_of_getElem? htp)
     have BX:nH 40 ((ts.map (·.tx)).take i)=lst 0 tp.tx:=by
      have e1:(ts.map (·.tx)).take i=(ts.map (·.tx)).take (i - 1)++[tp.tx]:=by
       have:(ts.map (·.tx))[i - 1]? =some tp.tx:=by rw[List.getElem?_map,htp];rfl
       conv=>lhs;rw[show i=i - 1+1 by omega]
       rw[List.take_add_one,this];rfl
      rw[e1,V2]
      show lst _ tp.tx=_
      exact afY hpm.1
     by_cases hc:t.tx∈closers
     . rw[decide_eq_true hc]
       exact bT ⟨_,rfl,_,rfl,_,_,rfl,rfl,sz,plain _ s3 (afR hc)⟩
     . rw[decide_eq_false hc]
       refine aZ ⟨_,rfl,_,rfl,_,_,rfl,rfl,?_⟩
       have hpv:cM (PV ts) ((i:Int) - 1)=some (SX tp.tx):=by
        have:((i - 1:Nat):Int)=(i:Int) - 1:=by omega
        rw[<-this]
        exact gZ (by unfold PV;rw[List.getElem?_map,htp];rfl)
       refine⟨l,_,_,_,rfl,rfl,aL.of ((sa.trans s3) _ _ hl),hpv,_,rfl,_,_,_,rfl,rfl,?_,Al hpm.1,_,_,rfl,rfl,_,rfl,?_⟩
       . rw[dB];have:=hpm.2.2;exact Nat.le_trans this (by decide)
       rw[afZ]
       by_cases ho:lst 0 tp.tx∈openers
       . rw[decide_eq_true ho]
         exact bT ⟨_,rfl,_,rfl,_,_,rfl,rfl,sz,plain _ s3 (V6 (by rw[BX];exact ho))⟩
       . rw[decide_eq_false ho]
         refine aZ ⟨_,rfl,_,_,rfl,rfl,by rw[q1];exact sS (by show _+1<=_;omega),?_⟩
         rw[q1,mj]
         refine⟨_,rfl,_,_,rfl,rfl,sS (by rw[List.length_append];show _+1+_<=_;omega),sa.trans s3,some (.int i),some (SX t.tx),?_⟩
         rw[mj,Wh,V5 hc (by rw[BX];exact ho)]
         have e5:jn 40 ((ts.map (·.tx)).take i)++[32]++t.tx=jn 40 ((ts.map (·.tx)).take i)++32::t.tx:=by simp
         rw[e5];rfl
 . rintro σ H' ⟨s1,x0,y0,rfl⟩
   rw[dI]
   refine⟨_,rfl,?_⟩
   have e:(ts.map (·.tx)).take ts.length=ts.map (·.tx):=by rw[<-List.length_map (f:=λt:Tk=>t.tx)];exact List.take_length
   rw[e]
   exact fin H' s1
theorem HJ {P:Program}{w:World}{K:W.Frag}{mg:Str->Option Value}{base:Heap}{CX:iW}{k:Nat}{f:Addr}{fd:FuncData}{ps:List Str}{sp:Sp}(h:∀vs H Q E,¬sp vs H Q E):aB P w K mg base CX k f fd ps sp:=
 ⟨λvs H Q E z=>absurd z (h _ _ _ _),λ_ _ _ _ _ _ _ _ _ _ _ _ _ z=>absurd z (h _ _ _ _)⟩
mutual
noncomputable def TA (F:Addr->Prop) (H:Hp):Kd->V->Prop
 | .num,v=>∃a,v=.ref a/\H a=some (.tup [.str "number"])
 | .bQ,v=>∃a,v=.ref a/\H a=some (.tup [.str "word"])
 | .bW fs,v=>∃a l us,v=.ref a/\H a=some (.tup [.str "record",.ref l])/\F l/\H l=some (.lst us)/\TF F H fs us
 | .rows key b fs,v=>∃a l us,v=.ref a/\H a=some (.tup [.str "rows",.str key,.str b,.ref l])/\F l/\H l=some (.lst us)/\TF F H fs us
 | .tree k,v=>∃a u,v=.ref a/\H a=some (.tup [.str "tree",u])/\TA F H k u
 | .bV fs,v=>∃a l us,v=.ref a/\H a=some (.tup [.str "either",.ref l])/\F l/\H l=some (.lst us)/\TF F H fs us
noncomputable def TF (F:Addr->Prop) (H:Hp):Fs->List V->Prop
 | .nil,us=>us=[]
 | .cons x k r,us=>∃a u us',us=.ref a::us'/\H a=some (.tup [.str x,u])/\TA F H k u/\TF F H r us'
end
mutual
theorem TA.mv {F G:Addr->Prop}{H H':Hp}(ht:Tu H H')(hl:∀l us,F l->H l=some (.lst us)->H' l=some (.lst us))(hG:∀l,F l->G l):∀{k:Kd}{v:V},TA F H k v->TA G H' k v
 | .num,_,⟨a,e,h⟩=>⟨a,e,ht _ _ h⟩
 | .bQ,_,⟨a,e,h⟩=>⟨a,e,ht _ _ h⟩
 | .bW fs,_,⟨a,l,us,e,h,f,h2,h3⟩=>⟨a,l,us,e,ht _ _ h,hG _ f,hl _ _ f h2,TF.mv ht hl hG h3⟩
 | .rows key b fs,_,⟨a,l,us,e,h,f,h2,h3⟩=>⟨a,l,us,e,ht _ _ h,hG _ f,hl _ _ f h2,TF.mv ht hl hG h3⟩
 | .tree k,_,⟨a,u,e,h,h2⟩=>⟨a,u,e,ht _ _ h,TA.mv ht hl hG h2⟩
 | .bV fs,_,⟨a,l,us,e,h,f,h2,h3⟩=>⟨a,l,us,e,ht _ _ h,hG _ f,hl _ _ f h2,TF.mv ht hl hG h3⟩
theorem TF.mv {F G:Addr->Prop}{H H':Hp}(ht:Tu H H')(hl:∀l us,F l->H l=some (.lst us)->H' l=some (.lst us))(hG:∀l,F l->G l):∀{fs:Fs}{us:List V},TF F H fs us->TF G H' fs us
 | .nil,_,h=>h
 | .cons x k r,_,⟨a,u,us',e,h,h2,h3⟩=>⟨a,u,us',e,ht _ _ h,TA.mv ht hl hG h2,TF.mv ht hl hG h3⟩
end
noncomputable def Fs.app:Fs->Fs->Fs
 | .nil,gs=>gs
 | .cons x k r,gs=>.cons x k (r.app gs)
theorem Fs.Wj:∀(fs:Fs) (x:Str) (k:Kd) (r:Fs),(fs.app (.cons x k .nil)).app r=fs.app (.cons x k r)
 | .nil,_,_,_=>rfl
 | .cons y j fs,x,k,r=>by show Fs.cons y j ((fs.app _).app r)=_;rw[Fs.Wj];rfl
theorem Fs.Wk:∀(fs:Fs),fs.app .nil=fs
 | .nil=>rfl
 | .cons y j fs=>by show Fs.cons y j (fs.app .nil)=_;rw[Fs.Wk]
noncomputable def Fs.size:Fs->Nat
 | .nil=>0
 | .cons _ _ r=>r.size+1
theorem TF.snoc {F:Addr->Prop}{H:Hp}{x:Str}{k:Kd}{a:Addr}{u:V}(ha:H a=some (.tup [.str x,u]))(hk:TA F H k u):∀{fs:Fs}{us:List V},TF F H fs us->TF F H (fs.app (.cons x k .nil)) (us++[.ref a])
 | .nil,us,h=>by
   have h:us=[]:=h
   subst h
   exact⟨a,u,[],rfl,ha,hk,rfl⟩
 | .cons y j fs,us,⟨b,z,us',e,h1,h2,h3⟩=>by subst e;exact⟨b,z,us'++[.ref a],rfl,h1,h2,TF.snoc ha hk h3⟩
theorem TF.len {F:Addr->Prop}{H:Hp}:∀{fs:Fs}{us:List V},TF F H fs us->us.length=fs.size
 | .nil,us,h=>by have h:us=[]:=h;subst h;rfl
 | .cons y j fs,us,⟨b,z,us',e,h1,h2,h3⟩=>by subst e;show us'.length+1=_;rw[TF.len h3];rfl
structure Rd (H H':Hp) (C r dx l:Addr) (us:List V) (qs:List Pc) (j:Nat):Prop where
 kp:∀c o,c≠r->H c=some o->H' c=some o
 at_:fB H' C r dx l us qs j
theorem Rd.of {H H':Hp}{C r dx l:Addr}{us:List V}{qs:List Pc}{i j:Nat}(h:fB H C r dx l us qs i)(m:Mv H H' C r dx l j):Rd H H' C r dx l us qs j:=⟨m.1,h.mv m⟩
theorem Rd.trans {H H1 H2:Hp}{C r dx l:Addr}{us:List V}{qs:List Pc}{i j:Nat}(x:Rd H H1 C r dx l us qs i)(y:Rd H1 H2 C r dx l us qs j):Rd H H2 C r dx l us qs j:=⟨λc o n e=>y.kp c o n (x.kp c o n e),y.at_⟩
theorem Rd.same {H H1 H2:Hp}{C r dx l:Addr}{us:List V}{qs:List Pc}{i:Nat}(x:Rd H H1 C r dx l us qs i)(y:Same H1 H2):Rd H H2 C r dx l us qs i:=⟨λc o n e=>y c o (x.kp c o n e),x.at_.same y⟩
theorem Rd.tu {H H':Hp}{C r dx l:Addr}{us us':List V}{qs bB:List Pc}{i j:Nat}(h:fB H C r dx l us qs i)(x:Rd H H' C r dx l us' bB j):Tu H H':=λa xs e=>x.kp a _ (fW e h.ob (by intro z;cases z)) e
theorem Rd.lo {H H':Hp}{C r dx l:Addr}{us us':List V}{qs bB:List Pc}{i j:Nat}(h:fB H C r dx l us qs i)(x:Rd H H' C r dx l us' bB j){t:Addr}(ht:H' t=none):H t=none:=by
 by_cases e:t=r
 . rw[e,x.at_.ob] at ht;cases ht
 . cases hh:H t with
   |none=>rfl
   |some o=>rw[x.kp t o e hh] at ht;cases ht
theorem Rd.ls {H H':Hp}{C r dx l:Addr}{us us':List V}{qs bB:List Pc}{i j:Nat}(h:fB H C r dx l us qs i)(x:Rd H H' C r dx l us' bB j){t:Addr}{xs:List V}(ht:H t=some (.lst xs)):H' t=some (.lst xs):=x.kp t _ (λe=>by rw[e,h.ob] at ht;cases ht) ht
structure cO (qs:List Pc) (i:Nat) (ts:List Tk) (c p:Nat):Prop where
 good:∀k t,k<c->ts[k]? =some t->∃q,qs[i+k]? =some q/\q.sort=t.sort/\q.th=t.th
 bad:c<ts.length->∃q,qs[i+c]? =some q/\q.sort=1/\q.th=.str []/\q.b=p
noncomputable def qC (qs:List Pc) (i p:Nat):Prop:=∃q,qs[i]? =some q/\q.sort=1/\q.th=.str []/\q.b=p
theorem cO.cons {qs:List Pc}{i c p:Nat}{t:Tk}{us:List Tk}(h:cO qs i (t::us) c p):(c=0/\qC qs i p)\/∃c',c=c'+1/\(∃q,qs[i]? =some q/\q.sort=t.sort/\q.th=t.th)/\cO qs (i+1) us c' p:=by
 cases c with
 |zero=>exact .inl ⟨rfl,h.bad (Nat.zero_lt_succ _)⟩
 |succ c=>
  refine .inr ⟨c,rfl,h.good 0 t (Nat.zero_lt_succ _) rfl,λk u hk e=>?_,λhc=>?_⟩
  . have:=h.good (k+1) u (by omega) e
    rw[show i+1+k=i+(k+1) by omega]
    exact this
  . have:=h.bad (by rw[List.length_cons];omega)
    rw[show i+1+c=i+(c+1) by omega]
    exact this
theorem cO.app {qs:List Pc}{i c p:Nat}{ts us:List Tk}(h:cO qs i (ts++us) c p):cO qs i ts c p/\(ts.length<=c->cO qs (i+ts.length) us (c - ts.length) p):=by
 refine⟨⟨λk t hk e=>?_,λhc=>h.bad (by rw[List.length_append];omega)⟩,λhc=>⟨λk t hk e=>?_,λhc2=>?_⟩⟩
 . obtain⟨hk2,e'⟩:=List.getElem?_eq_some_iff.mp e
   exact h.good k t hk (by rw[List.getElem?_append_left hk2];exact e)
 . have:=h.good (ts.length+k) t (by omega) (by rw[List.getElem?_append_right (Nat.le_add_right _ _),Nat.add_sub_cancel_left];exact e)
   rw[<-Nat.add_assoc] at this
   exact this
 . have:=h.bad (by rw[List.length_append];omega)
   rw[show i+ts.length+(c - ts.length)=i+c by omega]
   exact this
theorem yq.e {qs:List Pc}{i p:Nat}{ts:List Tk}(h:yq qs i ts):cO qs i ts ts.length p:=⟨λk t _ e=>h k t e,λz=>absurd z (Nat.lt_irrefl _)⟩
noncomputable def Er (cN r:Addr) (H:Hp) (p:Nat) (E:XK):Prop:=∀dd H',(∀c o,c≠r->H c=some o->H' c=some o)->H' dd=some (.xd [("place",.int p)])->E (.ref cN) (some dd) H'
theorem Er.mono {cN r:Addr}{H H1:Hp}{p:Nat}{E:XK}(h:Er cN r H p E)(k:∀c o,c≠r->H c=some o->H1 c=some o):Er cN r H1 p E:=λdd H' k2 e=>h dd H' (λc o hc ho=>k2 c o hc (k c o hc ho)) e
theorem Er.rf {cN r:Addr}{H:Hp}{p:Nat}{E:XK}(h:Er cN r H p E):Rf cN H p E:=λdd H' s e=>h dd H' (λc o _ ho=>s c o ho) e
mutual
noncomputable def Kd.dq:Kd->Nat
 | .num=>1
 | .bQ=>1
 | .bW fs=>fs.dq+1
 | .rows _ _ fs=>fs.dq+1
 | .tree k=>k.dq+1
 | .bV fs=>fs.dq+1
noncomputable def Fs.dq:Fs->Nat
 | .nil=>1
 | .cons _ k r=>max k.dq r.dq
end
noncomputable def vp (d:Nat) (C cN:Addr):Sp:=λvs H Q E=>∃r dx l us qs i x k c p,vs=[.ref r]/\fB H C r dx l us qs i/\cO qs i (aK (sl x)::mkT 58::Kd.tk k) c p/\k.dq<d/\k.N/\k.tk.length<=1000/\(k.tk.length+2<=c->∀a u H',Rd H H' C r dx l us qs (i+(k.tk.length+2))->H' a=some (.tup [.str x,u])->TA (λt=>H t=none) H' k u->Q (.ref a) H')/\(c<k.tk.length+2->Er cN r H p E)
noncomputable def Wl (d:Nat) (C cN f:Addr):Sp:=λvs H Q E=>∃r dx l us qs i fs c p,vs=[.ref r,.str "{",.str "}",.ref f]/\fB H C r dx l us qs i/\cO qs i (mkT 123::(Fs.tk fs++[mkT 125])) c p/\fs.tk.length<=1000/\fs.dq<d/\fs.N/\(fs.tk.length+2<=c->∀t ws H',Rd H H' C r dx l us qs (i+(fs.tk.length+2))->H t=none->H' t=some (.lst ws)->TF (λt=>H t=none) H' fs ws->Q (.ref t) H')/\(c<fs.tk.length+2->Er cN r H p E)
theorem cO.head {qs:List Pc}{i c p:Nat}{t:Tk}{us:List Tk}(h:cO qs i (t::us) c p):∃q,qs[i]? =some q/\(q.sort=t.sort\/q.sort=1):=by
 rcases h.cons with⟨_,q,hq,h1,_⟩|⟨_,_,⟨q,hq,h1,_⟩,_⟩
 . exact⟨q,hq,.inr h1⟩
 . exact⟨q,hq,.inl h1⟩
theorem qC.e {qs:List Pc}{i p:Nat}{ts:List Tk}(h:qC qs i p):cO qs i ts 0 p:=⟨λ_ _ hk=>absurd hk (Nat.not_lt_zero _),λ_=>h⟩
theorem jC {q:Pc}(h:q.sort=1):(¬dH q.sort="mark")/\¬dH q.sort="name":=by
 rw[h];show(¬dH 1=Str.ofString "mark")/\¬dH 1=Str.ofString "name";decide +kernel
theorem Fs.Wm:∀(fs gs:Fs),(fs.app gs).size=fs.size+gs.size
 | .nil,gs=>by show gs.size=0+gs.size;omega
 | .cons y j fs,gs=>by show(fs.app gs).size+1=fs.size+1+gs.size;rw[Fs.Wm];omega
theorem Fs.Wn:∀(fs:Fs),fs.size<=fs.cD.length
 | .nil=>Nat.le_refl _
 | .cons x k r=>by
   have:=Fs.Wn r
   show r.size+1<=(mkT 44::aK (sl x)::mkT 58::(k.tk++r.cD)).length
   rw[List.length_cons,List.length_cons,List.length_cons,List.length_append];omega
theorem Fs.size_le:∀(fs:Fs),fs.size<=fs.tk.length
 | .nil=>Nat.le_refl _
 | .cons x k r=>by
   have:=Fs.Wn r
   show r.size+1<=(aK (sl x)::mkT 58::(k.tk++r.cD)).length
   rw[List.length_cons,List.length_cons,List.length_append];omega
section
variable {P:Program}{w:World}{K:W.Frag}{mg:Str->Option Value}{base:Heap}
variable {C cN:Addr}
theorem Wo:bR ["self","first","last","read_one","things"] ["self","first","last","read_one"] (aN (aR 24 8)):=cA
theorem Wq (d kf:Nat)(T:Tb mg)(RD:jL K mg C jd dZ fH ig d8 gC je iI)(j9:Dm K "listed" "Reader.listed" ["self","first","last","read_one"] (aR 24 8) iI Ce)(Ws:W.keepIn K (.ref jO)=true)(Wt:Binds K qD ["reader"] [])(Wu:aB P w K mg base (bK P w) (kf+1) jO qD ["reader"] (vp d C cN))(gD:Dm K "is_at" "Reader.is_at" ["self","sort","thing"] (aR 24 1) dZ mD)(j6:aB P w K mg base aO (1) dZ mD ["self","sort","thing"] (u9 C))(gj:Dm K "passed" "Reader.passed" ["self","sort","thing"] (aR 24 5) d8 mF)(jz:aB P w K mg base aO (2) d8 mF ["self","sort","thing"] (u_ C))(jM:Dm K "pass_mark" "Reader.pass_mark" ["self","mark"] (aR 24 6) gC sJ)(oX:aB P w K mg base (bK P w) (3+1) gC sJ ["self","mark"] (B_ C cN)):aB P w K mg base (bK P w) ((kf+5)+1) iI Ce ["self","first","last","read_one"] (Wl d C cN jO):=by
 have CT:=RD.ct
 have sI:=RD.a
 have sO:=RD.p
 have Cg:=RD.k
 refine mC j9.F Wo (λvs H Q E h=>?_) (λcdv A outer s H vs Q E hr h=>?_)
 . obtain⟨r,dx,l,us,qs,i,fs,c,p,rfl,_⟩:=h
   rfl
 obtain⟨r,dx,l,us,qs,i,fs,c,p,rfl,hR,hP,jD,hdp,hN,fin,fe⟩:=h
 have hsz:fs.size<=200000:=by have:=fs.size_le;omega
 have nd:=Wo.nd
 refine⟨_,(aC (gW (gM (pv 0) CT Cg oX (hr.mono (by omega)) jM.b .nil (dY λ_ _ _ z=>z) (aj (pv 1) ak)))
  (aC (aQ (i:=4) nd rfl (Or.inl rfl) (bJ ak))
  (aC (bF (oE (iV (gM (pv 0) CT sI j6 (hr.mono (by omega)) gD.b .nil aY (aj aD (aj (pv 2) ak))))) (aC (gW (iZ PySem.F.plainAttrs_list PySem.F.slot_list_append PySem.F.type_list_append k_ (pv 4) (aj (V_ Wu (hr.mono (by omega)) Ws Wt .nil (dY λ_ _ _ z=>z) (pv 3) (aj (pv 0) ak)) ak)))
  (aH (Ae PassesOwn.leaving (iV (gM (pv 0) CT sO jz (hr.mono (by omega)) gj.b .nil aY (aj aD (aj aD ak)))) (aH (gW (iZ PySem.F.plainAttrs_list PySem.F.slot_list_append PySem.F.type_list_append k_ (pv 4) (aj (V_ Wu (hr.mono (by omega)) Ws Wt .nil (dY λ_ _ _ z=>z) (pv 3) (aj (pv 0) ak)) ak))))))) bG)
  (aC (gW (gM (pv 0) CT Cg oX (hr.mono (by omega)) jM.b .nil (dY λ_ _ _ z=>z) (aj (pv 2) ak)))
  (aH (aW (pv 4))))))),?_⟩
 rcases hP.cons with⟨hc0,q0,hq0,b0,b1,b2⟩|⟨c',hcc,⟨q0,hq0,g0,g1⟩,qF⟩
 . refine⟨_,rfl,r,dx,_,rfl,hR.ob,rfl,_,rfl,r,dx,l,us,qs,i,q0,_,rfl,hR,hq0,.inr ⟨λz=>(jC b0).1 z.1,?_⟩⟩
   rw[b2];exact(fe (by omega)).rf
 refine⟨_,rfl,r,dx,_,rfl,hR.ob,rfl,_,rfl,r,dx,l,us,qs,i,q0,_,rfl,hR,hq0,.inl ⟨⟨by rw[g0];rfl,by rw[g1];rfl⟩,λH1 HN=>?_⟩⟩
 have R1:=Rd.of hR HN
 refine⟨um,λt ht=>?_⟩
 have s2:Same H1 (upd H1 t (.lst [])):=Same.new ht
 have R2:=R1.same s2
 have htn:H t=none:=Rd.lo hR R1 ht
 have htr:t≠r:=λz=>by rw[z,R1.at_.ob] at ht;cases ht
 have htl:l≠t:=λz=>by rw[<-z,R1.at_.ls] at ht;cases ht
 have t2:upd H1 t (.lst []) t=some (.lst []):=aG
 have nt:∀c o,c≠r->H c=some o->c≠t:=λc o hc e=>aJ (R1.kp c o hc e) ht
 generalize upd H1 t (.lst [])=H2 at *
 have app:∀(done:Fs) (x:Str) (k:Kd) (pos cc:Nat) (H':Hp) (ws:List V),Rd H H' C r dx l us qs pos->H' t=some (.lst ws)->TF (λa=>H a=none/\a≠t) H' done ws->done.size<200000->cO qs pos (aK (sl x)::mkT 58::k.tk) cc p->k.dq<d->k.N->k.tk.length<=1000->(cc<k.tk.length+2->c<fs.tk.length+2)->
  ∀(Qn:VK),(k.tk.length+2<=cc->∀lY ws',Rd H lY C r dx l us qs (pos+(k.tk.length+2))->lY t=some (.lst ws')->TF (λa=>H a=none/\a≠t) lY (done.app (.cons x k .nil)) ws'->Qn .non lY)->
  vp d C cN [.ref r] H' (λv H3=>Tv (.ref t) [v] H3 Qn) E:=by
  intro done x k pos cc H' ws vq htj iu hds hpat hkd hkN hkl hce Qn hQn
  refine⟨r,dx,l,us,qs,pos,x,k,cc,p,rfl,vq.at_,hpat,hkd,hkN,hkl,λhgood a u H3 R3 ha hu=>?_,λhbad=>(fe (hce hbad)).mono vq.kp⟩
  have jh:H3 t=some (.lst ws):=R3.kp _ _ htr htj
  have hat:a≠t:=fW ha jh (by intro z;cases z)
  refine⟨t,_,.ref a,rfl,rfl,jh,?_,hQn hgood _ (ws++[.ref a]) ?_ aG ?_⟩
  . rw[iu.len];exact Nat.lt_of_lt_of_le hds (by decide)
  . have kk:∀c o,c≠t->H3 c=some o->upd H3 t (.lst (ws++[.ref a])) c=some o:=λc o hc e=>by rw[aq hc];exact e
    have yu:=vq.trans R3
    exact⟨λc o hc e=>kk c o (nt c o hc e) (yu.kp c o hc e),⟨kk _ _ (Ne.symm htr) yu.at_.ob,kk _ _ htl yu.at_.ls,yu.at_.pl.tu λc xs e=>kk _ _ (fW e jh (by intro z;cases z)) e,yu.at_.le⟩⟩
  . have yw:Tu H3 (upd H3 t (.lst (ws++[.ref a]))):=λc xs e=>by rw[aq (fW e jh (by intro z;cases z))];exact e
    refine TF.snoc (by rw[aq hat];exact ha) (hu.mv yw (λl' us' hl' e=>?_) λl' hl'=>⟨Rd.lo hR vq hl',λe=>by rw[e,htj] at hl';cases hl'⟩) (iu.mv (λc xs e=>yw c xs (Rd.tu vq.at_ R3 c xs e)) (λl' us' hl' e=>?_) λ_ h=>h)
    . rw[aq (λe2=>by rw[e2,htj] at hl';cases hl')];exact e
    . rw[aq hl'.2];exact Rd.ls vq.at_ R3 e
 cases fs with
 |nil=>
  have ftl:Fs.nil.tk.length=0:=rfl
  rcases cO.cons (t:=mkT 125) (us:=[]) qF with⟨hc0,hbad⟩|⟨c2,hc2,⟨q1,hq1,k0,k1⟩,_⟩
  . obtain⟨q1,hq1,b0,b1,b2⟩:=id hbad
    refine⟨_,rfl,r,dx,_,rfl,R2.at_.ob,rfl,_,rfl,r,dx,l,us,qs,i+1,q1,_,_,rfl,R2.at_,hq1,_,rfl,?_⟩
    rw[decide_eq_false (jC b0).1]
    refine bT ⟨_,rfl,.inl ⟨rfl,_,aL.of t2⟩,_,rfl,rfl,_,rfl,?_⟩
    dsimp only[gY]
    exact app .nil "a" .num (i+1) 0 H2 [] R2 t2 rfl (by decide) hbad.e (show 1<d from hdp) (by simp[Kd.N]) (by decide) (λ_=>by omega) _ λh=>absurd h (by omega)
  . refine⟨_,rfl,r,dx,_,rfl,R2.at_.ob,rfl,_,rfl,r,dx,l,us,qs,i+1,q1,_,_,rfl,R2.at_,hq1,_,rfl,?_⟩
    rw[decide_eq_true (show dH q1.sort="mark" by rw[k0];rfl),decide_eq_true (show q1.th.V=.str "}" by rw[k1];rfl)]
    refine aZ ⟨_,rfl,r,dx,_,rfl,R2.at_.ob,rfl,_,rfl,r,dx,l,us,qs,i+1,q1,_,rfl,R2.at_,hq1,.inl ⟨⟨by rw[k0];rfl,by rw[k1];rfl⟩,λH3 mv3=>⟨_,rfl,?_⟩⟩⟩
    exact fin (by omega) t [] H3 (R2.trans (Rd.of R2.at_ mv3)) htn (mv3.1 _ _ htr t2) rfl
 |cons x0 iK rs=>
  have hP2:cO qs (i+1) ((aK (sl x0)::mkT 58::iK.tk)++(rs.cD++[mkT 125])) c' p:=by
   have e:(Fs.cons x0 iK rs).tk++[mkT 125]=(aK (sl x0)::mkT 58::iK.tk)++(rs.cD++[mkT 125]):=by
    show aK (sl x0)::mkT 58::((iK.tk++rs.cD)++[mkT 125])=_
    rw[List.append_assoc];rfl
   rw[<-e];exact qF
  have asr:(Fs.cons x0 iK rs).tk.length=iK.tk.length+rs.cD.length+2:=by
   show(aK (sl x0)::mkT 58::(iK.tk++rs.cD)).length=_
   rw[List.length_cons,List.length_cons,List.length_append]
  have hl0:(aK (sl x0)::mkT 58::iK.tk).length=iK.tk.length+2:=rfl
  obtain⟨hPa,hPb⟩:=hP2.app
  obtain⟨q1,hq1,k0⟩:=hPa.head
  have hdk:iK.dq<d:=Nat.lt_of_le_of_lt (Nat.le_max_left _ _) hdp
  have hdr:rs.dq<d:=Nat.lt_of_le_of_lt (Nat.le_max_right _ _) hdp
  have hsz':rs.size+1<=200000:=hsz
  refine⟨_,rfl,r,dx,_,rfl,R2.at_.ob,rfl,_,rfl,r,dx,l,us,qs,i+1,q1,_,_,rfl,R2.at_,hq1,_,rfl,?_⟩
  rw[decide_eq_false (show ¬dH q1.sort="mark" by
   rcases k0 with k0|k0
   . rw[k0];show ¬dH 4=Str.ofString "mark";decide +kernel
   . exact(jC k0).1)]
  refine bT ⟨_,rfl,.inl ⟨rfl,_,aL.of t2⟩,_,rfl,rfl,_,rfl,?_⟩
  dsimp only[gY]
  refine app .nil x0 iK (i+1) c' H2 [] R2 t2 rfl (by decide) hPa hdk hN.2.1 (by omega) (λ_=>by omega) _ λhgd H3 ws3 R3 t3 tf3=>?_
  refine⟨λm σ H'=>∃(done rest:Fs) (pos cc:Nat) (ws:List V),m=rest.size/\done.app rest=.cons x0 iK rs/\Rd H H' C r dx l us qs pos/\H' t=some (.lst ws)/\TF (λa=>H a=none/\a≠t) H' done ws/\cO qs pos (rest.cD++[mkT 125]) cc p/\(i+c=pos+cc/\i<=pos)/\pos+rest.cD.length+1=i+((Fs.cons x0 iK rs).tk.length+2)/\rest.dq<d/\rest.N/\done.size+rest.size<=200000/\σ=[some (.ref r),some (.str "{"),some (.str "}"),some (.ref jO),some (.ref t)],⟨_,.cons x0 iK .nil,rs,_,c' - (iK.tk.length+2),ws3,rfl,rfl,R3,t3,tf3,?_,?_,?_,hdr,hN.2.2,?_,rfl⟩,?_⟩
  . have:=hPb (by rw[hl0];exact hgd)
    rw[hl0] at this
    exact this
  . exact⟨by omega,by omega⟩
  . omega
  . show 0+1+rs.size<=200000;omega
  rintro m σ H' ⟨done,rest,pos,cc,ws,rfl,HS,R4,t4,Wv,Ci,⟨hce,hip⟩,hpos,Ww,Wx,hs4,rfl⟩
  cases rest with
  |cons x k rr=>
   have e3:(Fs.cons x k rr).cD.length=k.tk.length+rr.cD.length+3:=by
    show(mkT 44::aK (sl x)::mkT 58::(k.tk++rr.cD)).length=_
    rw[List.length_cons,List.length_cons,List.length_cons,List.length_append]
   rcases cO.cons (t:=mkT 44) (us:=aK (sl x)::mkT 58::(k.tk++rr.cD)++[mkT 125]) Ci with⟨hz,q4,gO,b0,b1,b2⟩|⟨c4,hc4,⟨q4,gO,a0,a1⟩,hP5⟩
   . refine⟨_,rfl,r,dx,_,rfl,R4.at_.ob,rfl,r,dx,l,us,qs,_,q4,"mark",",",rfl,R4.at_,gO,.inr ⟨λz=>(jC b0).1 z.1,_,rfl,aZ ?_⟩⟩
     refine⟨_,rfl,r,dx,_,rfl,R4.at_.ob,rfl,_,rfl,r,dx,l,us,qs,_,q4,_,rfl,R4.at_,gO,.inr ⟨λz=>(jC b0).1 z.1,?_⟩⟩
     rw[b2];exact((fe (by omega)).mono R4.kp).rf
   refine⟨_,rfl,r,dx,_,rfl,R4.at_.ob,rfl,r,dx,l,us,qs,pos,q4,"mark",",",rfl,R4.at_,gO,.inl ⟨⟨by rw[a0];rfl,by rw[a1];rfl⟩,λH5 oY=>⟨_,rfl,bT ?_⟩⟩⟩
   refine⟨_,λ_ _ z=>z,?_⟩
   have sW:=Rd.of R4.at_ oY
   have R5:Rd H H5 C r dx l us qs (pos+1):=R4.trans sW
   have t5:=oY.1 _ _ htr t4
   have tf5:TF (λa=>H a=none/\a≠t) H5 done ws:=Wv.mv (Rd.tu R4.at_ sW) (λl' us' _ e=>Rd.ls R4.at_ sW e) λ_ h=>h
   have hP6:cO qs (pos+1) ((aK (sl x)::mkT 58::k.tk)++(rr.cD++[mkT 125])) c4 p:=by
    have e:aK (sl x)::mkT 58::(k.tk++rr.cD)++[mkT 125]=(aK (sl x)::mkT 58::k.tk)++(rr.cD++[mkT 125]):=by
     show aK (sl x)::mkT 58::((k.tk++rr.cD)++[mkT 125])=_
     rw[List.append_assoc];rfl
    rw[<-e];exact hP5
   have vA:(aK (sl x)::mkT 58::k.tk).length=k.tk.length+2:=rfl
   obtain⟨hPc,hPd⟩:=hP6.app
   have asv:done.size+(rr.size+1)<=200000:=hs4
   refine⟨_,rfl,.inl ⟨rfl,_,aL.of t5⟩,_,rfl,rfl,_,rfl,?_⟩
   dsimp only[gY]
   refine app done x k (pos+1) c4 H5 ws R5 t5 tf5 (by omega) hPc (Nat.lt_of_le_of_lt (Nat.le_max_left _ _) Ww) Wx.2.1 (by omega) (λ_=>by omega) _ λhgd H6 ws6 R6 t6 tf6=>?_
   refine⟨rr.size,Nat.lt_succ_self _,done.app (.cons x k .nil),rr,_,c4 - (k.tk.length+2),ws6,rfl,by rw[Fs.Wj];exact HS,R6,t6,tf6,?_,?_,?_,Nat.lt_of_le_of_lt (Nat.le_max_right _ _) Ww,Wx.2.2,?_,rfl⟩
   . have:=hPd (by rw[vA];exact hgd)
     rw[vA] at this
     exact this
   . exact⟨by omega,by omega⟩
   . omega
   . rw[Fs.Wm];show done.size+1+rr.size<=200000;omega
  |nil=>
   rw[Fs.Wk] at HS
   subst HS
   have hpos':pos+0+1=i+((Fs.cons x0 iK rs).tk.length+2):=hpos
   rcases cO.cons (t:=mkT 125) (us:=[]) Ci with⟨hz,q4,gO,b0,b1,b2⟩|⟨c4,hc4,⟨q4,gO,a0,a1⟩,_⟩
   . refine⟨_,rfl,r,dx,_,rfl,R4.at_.ob,rfl,r,dx,l,us,qs,_,q4,"mark",",",rfl,R4.at_,gO,.inr ⟨λz=>(jC b0).1 z.1,_,rfl,aZ ?_⟩⟩
     refine⟨_,rfl,r,dx,_,rfl,R4.at_.ob,rfl,_,rfl,r,dx,l,us,qs,_,q4,_,rfl,R4.at_,gO,.inr ⟨λz=>(jC b0).1 z.1,?_⟩⟩
     rw[b2];exact((fe (by omega)).mono R4.kp).rf
   refine⟨_,rfl,r,dx,_,rfl,R4.at_.ob,rfl,r,dx,l,us,qs,_,q4,"mark",",",rfl,R4.at_,gO,.inr ⟨λz=>?_,_,rfl,aZ ?_⟩⟩
   . have z2:=z.2
     rw[a1] at z2
     exact absurd (show V.str (ao [125])=V.str "," from z2) (by decide +kernel)
   refine⟨_,rfl,r,dx,_,rfl,R4.at_.ob,rfl,_,rfl,r,dx,l,us,qs,_,q4,_,rfl,R4.at_,gO,.inl ⟨⟨by rw[a0];rfl,by rw[a1];rfl⟩,λH5 oY=>⟨_,rfl,?_⟩⟩⟩
   have sW:=Rd.of R4.at_ oY
   have R5:=R4.trans sW
   rw[show pos+1=i+((Fs.cons x0 iK rs).tk.length+2) by omega] at R5
   exact fin (by omega) t ws H5 R5 htn (oY.1 _ _ htr t4) (Wv.mv (Rd.tu R4.at_ sW) (λl' us' _ e=>Rd.ls R4.at_ sW e) λ_ h=>h.1)
end
noncomputable abbrev mH:List V:=[.str "number",.str "word",.str "rows",.str "either"]
noncomputable def Wy:List Tx:=[mG,jN,cY,eX]
noncomputable def HW (K:W.Frag) (C cN:Addr):Sp:=λvs H Q E=>∃r dx l us qs i q n,vs=[.ref r,.ref n]/\aM K H n mH/\fB H C r dx l us qs i/\qs[i]? =some q/\((∃x,q.sort=4/\q.th=.str x/\x∈Wy/\∀H',Rd H H' C r dx l us qs (i+1)->Q (SX x) H')\/(q.sort=1/\q.th=.str []/\Rf cN H q.b E))
noncomputable def isTree:Kd->Prop
 | .tree _=>True
 |_=>False
noncomputable def Wz (d:Nat) (C cN:Addr):Sp:=λvs H Q E=>∃r dx l us qs i k c p,vs=[.ref r]/\fB H C r dx l us qs i/\cO qs i (Kd.tk k) c p/\¬isTree k/\k.dq<=d/\k.N/\k.tk.length<=1000/\(k.tk.length<=c->∀v H',Rd H H' C r dx l us qs (i+k.tk.length)->TA (λt=>H t=none) H' k v->Q v H')/\(c<k.tk.length->Er cN r H p E)
theorem Kd.HX:∀(k:Kd),0<k.tk.length
 | .num=>Nat.zero_lt_succ _
 | .bQ=>Nat.zero_lt_succ _
 | .bW fs=>Nat.zero_lt_succ _
 | .rows key b fs=>Nat.zero_lt_succ _
 | .tree k=>Nat.zero_lt_succ _
 | .bV fs=>Nat.zero_lt_succ _
section
variable {P:Program}{w:World}{K:W.Frag}{mg:Str->Option Value}{base:Heap}
variable {C cN mJ:Addr}
theorem WD:bR ["self","names","piece"] ["self","names"] (aN (aR 24 4)):=cA
theorem agg (T:Tb mg)(RD:jL K mg C jd dZ fH ig d8 gC je iI)(XC:sG K mg base cN jx)(nM:Dm K "taken_among" "Reader.taken_among" ["self","names"] (aR 24 4) ig yC)(iJ:Dm K "taken" "Reader.taken" ["self","sort"] (aR 24 3) fH oW)(mK:aB P w K mg base (bK P w) (3+1) fH oW ["self","sort"] (yp C cN))(jy:Dm K "__init__" "NoText.__init__" ["self","place"] (aR 4 0) jx oV)(sH:aB P w K mg base aO (1) jx oV ["self","place"] (u0 cN)):aB P w K mg base (bK P w) (4+1) ig yC ["self","names"] (HW K C cN):=by
 have CT:=RD.ct
 have vB:=RD.t
 refine mC nM.F WD (λvs H Q E h=>?_) (λcdv A outer s H vs Q E hr h=>?_)
 . obtain⟨r,dx,l,us,qs,i,q,n,rfl,_⟩:=h
   rfl
 obtain⟨r,dx,l,us,qs,i,q,n,rfl,hn,hR,hq,hor⟩:=h
 have nd:=WD.nd
 refine⟨_,(aC (aQ (i:=2) nd rfl (Or.inl rfl) (aU dU (nq (pv 0) rfl) (nq (pv 0) rfl) (λ_ _=>rfl)))
  (aC (bF (bh adw (aU bY (pv 2) au (λ_ _=>rfl)) (pv 1) (by with_unfolding_all rfl)) (aH (Bp rfl XC.xi PySem.F.excBase_ValueError XC.kp sH (hr.mono (by omega)) rfl rfl XC.m jy.b Bq (aj (aU bY (pv 2) au (λ_ _=>rfl)) ak))) bG)
  (aH (aW (gM (pv 0) CT vB mK (hr.mono (by omega)) iJ.b .nil (dY λ_ _ _ z=>z) (aj aD ak)))))),?_⟩
 obtain⟨a,hu,ha⟩:=hR.pl.at hq
 refine⟨_,rfl,r,C,dx,_,_,rfl,hR.ob,RD.ct,RD.n1,rfl,_,rfl,r,C,dx,_,_,rfl,hR.ob,RD.ct,RD.n2,rfl,l,us,_,_,rfl,rfl,aL.of hR.ls,gZ hu,?_⟩
 rcases hor with⟨x,h4,hth,hx,fin⟩|⟨h1,hth,rf⟩
 . refine⟨_,rfl,a,_,_,_,rfl,rfl,aM.of ha,rfl,_,rfl,n,mH,rfl,.inr hn,by rw[hth];rfl,by rfl,?_⟩
   have hin:(if true=true then !inV q.th.V mH else inV q.th.V mH)=false:=by
    rw[hth]
    unfold Wy at hx
    simp only[List.mem_cons,List.not_mem_nil,or_false] at hx
    rcases hx with e|e|e|e <;> subst e <;> decide +kernel
   rw[hin]
   refine⟨_,rfl,aZ ⟨_,rfl,r,dx,_,rfl,hR.ob,rfl,r,dx,l,us,qs,i,q,"name",rfl,hR,hq,.inl ⟨by rw[h4];rfl,λH' mv=>?_⟩⟩⟩
   rw[hth]
   exact fin H' (Rd.of hR mv)
 . refine⟨_,rfl,a,_,_,_,rfl,rfl,aM.of ha,rfl,_,rfl,n,mH,rfl,.inr hn,by rw[hth];rfl,by rfl,?_⟩
   have hin:(if true=true then !inV q.th.V mH else inV q.th.V mH)=true:=by
    rw[hth];decide +kernel
   rw[hin]
   refine⟨_,rfl,bT ?_⟩
   exact⟨_,rfl,a,_,_,_,rfl,rfl,aM.of ha,rfl,cJ,λb hb=>Ca rf b hb⟩
theorem WK:bR ["reader","form","key","by"] ["reader"] (aN (top 29)):=cA
theorem WL (d kf:Nat)(T:Tb mg)(RD:jL K mg C jd dZ fH ig d8 gC je iI)(hF:∀H,aM K H mJ mH)(yD:mg "FORMS"=some (.ref mJ))(j_:Dn K mg "told_form" ["reader"] (top 29) Cj Ck)(ji:Dn K mg "told_field" ["reader"] (top 30) jO qD)(j9:Dm K "listed" "Reader.listed" ["self","first","last","read_one"] (aR 24 8) iI Ce)(HY:aB P w K mg base (bK P w) ((kf+5)+1) iI Ce ["self","first","last","read_one"] (Wl d C cN jO))(nM:Dm K "taken_among" "Reader.taken_among" ["self","names"] (aR 24 4) ig yC)(yE:aB P w K mg base (bK P w) (4+1) ig yC ["self","names"] (HW K C cN))(iJ:Dm K "taken" "Reader.taken" ["self","sort"] (aR 24 3) fH oW)(mK:aB P w K mg base (bK P w) (3+1) fH oW ["self","sort"] (yp C cN))(gD:Dm K "is_at" "Reader.is_at" ["self","sort","thing"] (aR 24 1) dZ mD)(j6:aB P w K mg base aO (1) dZ mD ["self","sort","thing"] (u9 C))(gj:Dm K "passed" "Reader.passed" ["self","sort","thing"] (aR 24 5) d8 mF)(jz:aB P w K mg base aO (2) d8 mF ["self","sort","thing"] (u_ C)):aB P w K mg base (bK P w) ((kf+6)+1) Cj Ck ["reader"] (Wz d C cN):=by
 have CT:=RD.ct
 have sI:=RD.a
 have sO:=RD.p
 have vB:=RD.t
 have agh:=RD.g
 have H_:=RD.l
 refine mC j_.F WK (λvs H Q E h=>?_) (λcdv A outer s H vs Q E hr h=>?_)
 . obtain⟨r,dx,l,us,qs,i,k,c,p,rfl,_⟩:=h
   rfl
 obtain⟨r,dx,l,us,qs,i,k,c,p,rfl,hR,hP,hnt,hdp,hN,hkl,fin,fe⟩:=h
 have nd:=WK.nd
 refine⟨_,(aC (bF (iV (gM (pv 0) CT sI j6 (hr.mono (by omega)) gD.b .nil aY (aj aD (aj aD ak)))) (aH (aW (bH (aj aD (aj (gM (pv 0) CT H_ HY (hr.mono (by omega)) j9.b .nil (dY λ_ _ _ z=>z) (aj aD (aj aD (aj (kZ (v:=.ref jO) rfl ji.m rfl) ak)))) ak))))) bG)
  (aC (aQ (i:=1) nd rfl (Or.inl rfl) (gM (pv 0) CT agh yE (hr.mono (by omega)) nM.b .nil (dY λ_ _ _ z=>z) (aj (kZ (v:=.ref mJ) rfl yD rfl) ak)))
  (aC (bF (bh cj (pv 1) aD (bw _)) (aH (aW (bH (aj aD (aj (gM (pv 0) CT H_ HY (hr.mono (by omega)) j9.b .nil (dY λ_ _ _ z=>z) (aj aD (aj aD (aj (kZ (v:=.ref jO) rfl ji.m rfl) ak)))) ak))))) bG)
  (aC (bF (bh cj (pv 1) aD (bw _)) (aC (aQ (i:=2) nd rfl (Or.inl rfl) (gM (pv 0) CT vB mK (hr.mono (by omega)) iJ.b .nil (dY λ_ _ _ z=>z) (aj aD ak)))
  (aC (aQ (i:=3) nd rfl (Or.inl rfl) (Rx (iV (gM (pv 0) CT sO jz (hr.mono (by omega)) gj.b .nil aY (aj aD (aj aD ak)))) (gM (pv 0) CT vB mK (hr.mono (by omega)) iJ.b .nil (dY λ_ _ _ z=>z) (aj aD ak)) aD))
  (aH (aW (bH (aj aD (aj (pv 2) (aj (pv 3) (aj (gM (pv 0) CT H_ HY (hr.mono (by omega)) j9.b .nil (dY λ_ _ _ z=>z) (aj aD (aj aD (aj (kZ (v:=.ref jO) rfl ji.m rfl) ak)))) ak))))))))) bG)
  (aH (aW (bH (aj (pv 1) ak)))))))),?_⟩
 have no:∀{x:Tx} {s:Str},ao x≠s->decide (SX x=V.str s)=false:=λhx=>decide_eq_false λe=>by injection e with e;exact hx e
 have yes:∀{x:Tx} {s:Str},ao x=s->decide (SX x=V.str s)=true:=λhx=>decide_eq_true (by unfold SX;rw[hx])
 have Cm:¬dH 4=Str.ofString "mark":=by decide +kernel
 have keep:∀{H1:Hp} {fs:Fs} {ws:List V} {a t:Addr} {o:HO},H1 a=none->TF (λt=>H t=none) H1 fs ws->TF (λt=>H t=none) (upd H1 a o) fs ws:=λha h=>h.mv (λc xs e=>by rw[aq (aJ e ha)];exact e) (λl' us' _ e=>by rw[aq (aJ e ha)];exact e) λ_ h=>h
 have hkp:=k.HX
 by_cases hc0:c=0
 . obtain⟨q,hq,b0,b1,b2⟩:=hP.bad (by omega)
   rw[hc0] at hq
   refine⟨_,rfl,r,dx,_,rfl,hR.ob,rfl,r,dx,l,us,qs,i,q,_,_,rfl,hR,hq,_,rfl,?_⟩
   rw[decide_eq_false (jC b0).1]
   exact aZ ⟨_,rfl,r,dx,_,rfl,hR.ob,rfl,r,dx,l,us,qs,i,q,mJ,rfl,hF _,hR,hq,.inr ⟨b0,b1,by rw[b2];exact(fe (by omega)).rf⟩⟩
 have first:∀{t:Tk} {ts:List Tk},cO qs i (t::ts) c p->∃c',c=c'+1/\(∃q,qs[i]? =some q/\q.sort=t.sort/\q.th=t.th)/\cO qs (i+1) ts c' p:=λh=>h.cons.resolve_left λz=>hc0 z.1
 cases k with
 |tree k=>exact absurd trivial hnt
 |bW fs=>
  obtain⟨c1,hc1,⟨q,hq,g0,g1⟩,_⟩:=first (t:=mkT 123) hP
  refine⟨_,rfl,r,dx,_,rfl,hR.ob,rfl,r,dx,l,us,qs,i,q,_,_,rfl,hR,hq,_,rfl,?_⟩
  rw[decide_eq_true (show dH q.sort="mark" by rw[g0];rfl),decide_eq_true (show q.th.V=.str "{" by rw[g1];rfl)]
  have e:(Kd.bW fs).tk.length=fs.tk.length+2:=by
   show(mkT 123::(fs.tk++[mkT 125])).length=_
   rw[List.length_cons,List.length_append];rfl
  refine bT ⟨_,rfl,r,dx,_,rfl,hR.ob,rfl,r,dx,l,us,qs,i,fs,c,p,rfl,hR,hP,by omega,by have:fs.dq+1<=d:=hdp;omega,hN,λhgd t ws H1 R1 ht0 ht1 tf=>⟨bC,λa ha=>?_⟩,λhbd=>fe (by omega)⟩
  refine fin (by omega) _ _ (by rw[e];exact R1.same (Same.new ha)) ⟨a,t,ws,rfl,aG,ht0,by rw[aq (aJ ht1 ha)];exact ht1,keep (t:=t) ha tf⟩
 |num=>
  obtain⟨c1,hc1,⟨q,hq,g0,g1⟩,_⟩:=first (t:=aK mG) (ts:=[]) hP
  refine⟨_,rfl,r,dx,_,rfl,hR.ob,rfl,r,dx,l,us,qs,i,q,_,_,rfl,hR,hq,_,rfl,?_⟩
  rw[decide_eq_false (show ¬dH q.sort="mark" by rw[g0];exact Cm)]
  refine aZ ⟨_,rfl,r,dx,_,rfl,hR.ob,rfl,r,dx,l,us,qs,i,q,mJ,rfl,hF _,hR,hq,.inl ⟨mG,g0,g1,by decide +kernel,λH1 R1=>?_⟩⟩
  refine⟨_,rfl,rfl,_,rfl,?_⟩
  rw[no (by decide +kernel)]
  refine aZ ⟨_,rfl,rfl,_,rfl,?_⟩
  rw[no (by decide +kernel)]
  refine aZ ⟨_,rfl,cJ,λa ha=>?_⟩
  exact fin (by show 1<=c;omega) _ _ (R1.same (Same.new ha)) ⟨a,rfl,by rw[aG];rfl⟩
 |bQ=>
  obtain⟨c1,hc1,⟨q,hq,g0,g1⟩,_⟩:=first (t:=aK jN) (ts:=[]) hP
  refine⟨_,rfl,r,dx,_,rfl,hR.ob,rfl,r,dx,l,us,qs,i,q,_,_,rfl,hR,hq,_,rfl,?_⟩
  rw[decide_eq_false (show ¬dH q.sort="mark" by rw[g0];exact Cm)]
  refine aZ ⟨_,rfl,r,dx,_,rfl,hR.ob,rfl,r,dx,l,us,qs,i,q,mJ,rfl,hF _,hR,hq,.inl ⟨jN,g0,g1,by decide +kernel,λH1 R1=>?_⟩⟩
  refine⟨_,rfl,rfl,_,rfl,?_⟩
  rw[no (by decide +kernel)]
  refine aZ ⟨_,rfl,rfl,_,rfl,?_⟩
  rw[no (by decide +kernel)]
  refine aZ ⟨_,rfl,cJ,λa ha=>?_⟩
  exact fin (by show 1<=c;omega) _ _ (R1.same (Same.new ha)) ⟨a,rfl,by rw[aG];rfl⟩
 |bV fs=>
  obtain⟨c1,hc1,⟨q,hq,g0,g1⟩,qF⟩:=first (t:=aK eX) hP
  refine⟨_,rfl,r,dx,_,rfl,hR.ob,rfl,r,dx,l,us,qs,i,q,_,_,rfl,hR,hq,_,rfl,?_⟩
  rw[decide_eq_false (show ¬dH q.sort="mark" by rw[g0];exact Cm)]
  refine aZ ⟨_,rfl,r,dx,_,rfl,hR.ob,rfl,r,dx,l,us,qs,i,q,mJ,rfl,hF _,hR,hq,.inl ⟨eX,g0,g1,by decide +kernel,λH1 R1=>?_⟩⟩
  refine⟨_,rfl,rfl,_,rfl,?_⟩
  rw[yes (by decide +kernel)]
  have e:i+(Kd.bV fs).tk.length=i+1+(fs.tk.length+2):=by
   show i+(aK eX::mkT 123::(fs.tk++[mkT 125])).length=_
   rw[List.length_cons,List.length_cons,List.length_append];show i+(fs.tk.length+1+1+1)=_;omega
  refine bT ⟨_,rfl,r,dx,_,rfl,R1.at_.ob,rfl,r,dx,l,us,qs,i+1,fs,c1,p,rfl,R1.at_,qF,by omega,by have:fs.dq+1<=d:=hdp;omega,hN,λhgd t ws H2 R2 ht0 ht1 tf=>⟨bC,λa ha=>?_⟩,λhbd=>(fe (by omega)).mono R1.kp⟩
  have tf':TF (λt=>H t=none) H2 fs ws:=tf.mv (λ_ _ e=>e) (λ_ _ _ e=>e) λ_ h=>Rd.lo hR R1 h
  refine fin (by omega) _ _ (by rw[e];exact(R1.trans R2).same (Same.new ha)) ⟨a,t,ws,rfl,aG,Rd.lo hR R1 ht0,by rw[aq (aJ ht1 ha)];exact ht1,keep (t:=t) ha tf'⟩
 |rows key b fs=>
  obtain⟨c1,hc1,⟨q,hq,g0,g1⟩,qF⟩:=first (t:=aK cY) hP
  have hlen:(Kd.rows key b fs).tk.length=(dD b).length+fs.tk.length+4:=by
   show(aK cY::aK (sl key)::(dD b++mkT 123::(fs.tk++[mkT 125]))).length=_
   rw[List.length_cons,List.length_cons,List.length_append,List.length_cons,List.length_append]
   show(dD b).length+(fs.tk.length+1+1)+1+1=_
   omega
  refine⟨_,rfl,r,dx,_,rfl,hR.ob,rfl,r,dx,l,us,qs,i,q,_,_,rfl,hR,hq,_,rfl,?_⟩
  rw[decide_eq_false (show ¬dH q.sort="mark" by rw[g0];exact Cm)]
  refine aZ ⟨_,rfl,r,dx,_,rfl,hR.ob,rfl,r,dx,l,us,qs,i,q,mJ,rfl,hF _,hR,hq,.inl ⟨cY,g0,g1,by decide +kernel,λH1 R1=>?_⟩⟩
  refine⟨_,rfl,rfl,_,rfl,?_⟩
  rw[no (by decide +kernel)]
  refine aZ ⟨_,rfl,rfl,_,rfl,?_⟩
  rw[yes (by decide +kernel)]
  rcases cO.cons (t:=aK (sl key)) qF with⟨hz,q2,hq2,d0,d1,d2⟩|⟨c2,hc2,⟨q2,hq2,b0,b1⟩,hP2⟩
  . exact bT ⟨_,rfl,r,dx,_,rfl,R1.at_.ob,rfl,r,dx,l,us,qs,i+1,q2,"name",rfl,R1.at_,hq2,.inr ⟨(jC d0).2,by rw[d2];exact((fe (by omega)).mono R1.kp).rf⟩⟩
  refine bT ⟨_,rfl,r,dx,_,rfl,R1.at_.ob,rfl,r,dx,l,us,qs,i+1,q2,"name",rfl,R1.at_,hq2,.inl ⟨by rw[b0];rfl,λH2 mv2=>?_⟩⟩
  have R2:=R1.trans (Rd.of R1.at_ mv2)
  have ek:q2.th.V=.str key:=by rw[b1];show V.str (ao (sl key))=_;rw[uW]
  rw[ek]
  have fin2:∀(j:Nat) (H4:Hp) (o:Addr) (t:Addr) (ws:List V),Rd H H4 C r dx l us qs j->j=i+(Kd.rows key b fs).tk.length->(Kd.rows key b fs).tk.length<=c->H t=none->H4 t=some (.lst ws)->TF (λt=>H t=none) H4 fs ws->H4 o=none->Q (.ref o) (upd H4 o (.tup [.str "rows",.str key,.str b,.ref t])):=λj H4 o t ws R4 ej hgd ht0 ht1 tf ho=>
   fin hgd _ _ (by rw[<-ej];exact R4.same (Same.new ho)) ⟨o,t,ws,rfl,aG,ht0,by rw[aq (aJ ht1 ho)];exact ht1,keep (t:=t) ho tf⟩
  by_cases hb:b=""
  . have eb:dD b=[]:=by unfold dD;rw[if_pos hb]
    rw[eb] at hP2 hlen
    have hlen:(Kd.rows key b fs).tk.length=0+fs.tk.length+4:=hlen
    obtain⟨q3,mL,c0⟩:=cO.head (t:=mkT 123) hP2
    refine⟨_,rfl,r,dx,_,rfl,R2.at_.ob,rfl,r,dx,l,us,qs,i+1+1,q3,"name","by",rfl,R2.at_,mL,.inr ⟨λz=>?_,_,rfl,aZ ?_⟩⟩
    . have z1:=z.1
      rcases c0 with c0|c0
      . rw[c0] at z1
        exact absurd z1 (by show ¬dH 2=Str.ofString "name";decide +kernel)
      . exact(jC c0).2 z1
    refine⟨_,rfl,_,rfl,_,rfl,r,dx,_,rfl,R2.at_.ob,rfl,r,dx,l,us,qs,i+1+1,fs,c2,p,rfl,R2.at_,hP2,by omega,by have:fs.dq+1<=d:=hdp;omega,hN.2.2,λhgd t ws H4 R4 ht0 ht1 tf=>⟨gw,λa ha=>?_⟩,λhbd=>(fe (by omega)).mono R2.kp⟩
    rw[show V.str (Str.ofString "")=V.str b by rw[hb]]
    exact fin2 _ H4 a t ws (R2.trans R4) (by rw[hlen];omega) (by omega) (Rd.lo hR R2 ht0) ht1 (tf.mv (λ_ _ e=>e) (λ_ _ _ e=>e) λ_ h=>Rd.lo hR R2 h) ha
  . have eb:dD b=[aK lu,aK (sl b)]:=by unfold dD;rw[if_neg hb]
    rw[eb] at hP2 hlen
    have hlen:(Kd.rows key b fs).tk.length=2+fs.tk.length+4:=hlen
    rcases cO.cons (t:=aK lu) hP2 with⟨hz,hbad⟩|⟨c3,hc3,⟨q3,mL,c0,c1'⟩,hP3⟩
    . obtain⟨q3,mL,d0,d1,d2⟩:=id hbad
      refine⟨_,rfl,r,dx,_,rfl,R2.at_.ob,rfl,r,dx,l,us,qs,i+1+1,q3,"name","by",rfl,R2.at_,mL,.inr ⟨λz=>(jC d0).2 z.1,_,rfl,aZ ?_⟩⟩
      exact⟨_,rfl,_,rfl,_,rfl,r,dx,_,rfl,R2.at_.ob,rfl,r,dx,l,us,qs,i+1+1,fs,0,p,rfl,R2.at_,hbad.e,by omega,by have:fs.dq+1<=d:=hdp;omega,hN.2.2,λhgd=>absurd hgd (by omega),λhbd=>(fe (by omega)).mono R2.kp⟩
    refine⟨_,rfl,r,dx,_,rfl,R2.at_.ob,rfl,r,dx,l,us,qs,i+1+1,q3,"name","by",rfl,R2.at_,mL,.inl ⟨⟨by rw[c0];rfl,by rw[c1'];rfl⟩,λH3 mv3=>⟨_,rfl,bT ?_⟩⟩⟩
    have R3:=R2.trans (Rd.of R2.at_ mv3)
    rcases cO.cons (t:=aK (sl b)) hP3 with⟨hz,q4,gO,d0,d1,d2⟩|⟨c4,hc4,⟨q4,gO,e0,e1⟩,Ci⟩
    . exact⟨_,rfl,r,dx,_,rfl,R3.at_.ob,rfl,r,dx,l,us,qs,i+1+1+1,q4,"name",rfl,R3.at_,gO,.inr ⟨(jC d0).2,by rw[d2];exact((fe (by omega)).mono R3.kp).rf⟩⟩
    refine⟨_,rfl,r,dx,_,rfl,R3.at_.ob,rfl,r,dx,l,us,qs,i+1+1+1,q4,"name",rfl,R3.at_,gO,.inl ⟨by rw[e0];rfl,λH5 oY=>?_⟩⟩
    have R5:=R3.trans (Rd.of R3.at_ oY)
    have eb2:q4.th.V=.str b:=by rw[e1];show V.str (ao (sl b))=_;rw[uW]
    rw[eb2]
    refine⟨_,rfl,_,rfl,_,rfl,r,dx,_,rfl,R5.at_.ob,rfl,r,dx,l,us,qs,i+1+1+1+1,fs,c4,p,rfl,R5.at_,Ci,by omega,by have:fs.dq+1<=d:=hdp;omega,hN.2.2,λhgd t ws H6 R6 ht0 ht1 tf=>⟨gw,λa ha=>?_⟩,λhbd=>(fe (by omega)).mono R5.kp⟩
    exact fin2 _ H6 a t ws (R5.trans R6) (by rw[hlen];omega) (by omega) (Rd.lo hR R5 ht0) ht1 (tf.mv (λ_ _ e=>e) (λ_ _ _ e=>e) λ_ h=>Rd.lo hR R5 h) ha
end
noncomputable def kh:Nat->Kd->Kd
 |0,b=>b
 |n+1,b=>.tree (kh n b)
theorem WM:∀(k:Kd),∃n b,¬isTree b/\k=kh n b
 | .num=>⟨0,.num,λh=>h,rfl⟩
 | .bQ=>⟨0,.bQ,λh=>h,rfl⟩
 | .bW fs=>⟨0,.bW fs,λh=>h,rfl⟩
 | .rows key b fs=>⟨0,.rows key b fs,λh=>h,rfl⟩
 | .bV fs=>⟨0,.bV fs,λh=>h,rfl⟩
 | .tree k=>by
   obtain⟨n,b,h1,h2⟩:=WM k
   exact⟨n+1,b,h1,by rw[h2];rfl⟩
theorem Ia:∀(n:Nat) (b:Kd),(kh n b).tk=List.replicate n (aK jg)++b.tk
 |0,b=>rfl
 |n+1,b=>by show aK jg::(kh n b).tk=_;rw[Ia,List.replicate_succ];rfl
theorem WQ:∀(n:Nat) (b:Kd),(kh n b).N->b.N
 |0,_,h=>h
 |n+1,b,h=>WQ n b h
theorem agk {qs:List Pc}{i c p:Nat}{b:Kd}(hb:¬isTree b)(h:cO qs i b.tk c p):∃q,qs[i]? =some q/\¬(dH q.sort="name"/\q.th.V=.str "tree"):=by
 have hp:=b.HX
 by_cases hc:c=0
 . obtain⟨q,hq,b0,_⟩:=h.bad (by omega)
   rw[hc] at hq
   exact⟨q,hq,λz=>(jC b0).2 z.1⟩
 . obtain⟨t,ts,e⟩:∃t ts,b.tk=t::ts:=by
    cases hh:b.tk with
    |nil=>rw[hh] at hp;exact absurd hp (Nat.lt_irrefl _)
    |cons t ts=>exact⟨t,ts,rfl⟩
   obtain⟨q,hq,g0,g1⟩:=h.good 0 t (by omega) (by rw[e];rfl)
   refine⟨q,hq,λz=>?_⟩
   have z2:=z.2
   have z1:=z.1
   rw[g1] at z2
   rw[g0] at z1
   cases b with
   |tree k=>exact hb trivial
   |num=>injection e with e1 _;rw[<-e1] at z2;exact absurd z2 (by decide +kernel)
   |bQ=>injection e with e1 _;rw[<-e1] at z2;exact absurd z2 (by decide +kernel)
   |bW fs=>injection e with e1 _;rw[<-e1] at z1;exact absurd z1 (by show ¬dH 2=Str.ofString "name";decide +kernel)
   |rows key b fs=>injection e with e1 _;rw[<-e1] at z2;exact absurd z2 (by decide +kernel)
   |bV fs=>injection e with e1 _;rw[<-e1] at z2;exact absurd z2 (by decide +kernel)
theorem WR:∀(n:Nat) (b:Kd),b.dq<=(kh n b).dq
 |0,b=>Nat.le_refl _
 |n+1,b=>by have:=WR n b;show _<=(kh n b).dq+1;omega
noncomputable def Cp (d:Nat) (C cN:Addr):Sp:=λvs H Q E=>∃r dx l us qs i k c p,vs=[.ref r]/\fB H C r dx l us qs i/\cO qs i (Kd.tk k) c p/\k.dq<=d/\k.N/\k.tk.length<=1000/\(k.tk.length<=c->∀v H',Rd H H' C r dx l us qs (i+k.tk.length)->TA (λt=>H t=none) H' k v->Q v H')/\(c<k.tk.length->Er cN r H p E)
section
variable {P:Program}{w:World}{K:W.Frag}{mg:Str->Option Value}{base:Heap}
variable {C cN mJ:Addr}
theorem WW:bR ["reader","trees","told","number"] ["reader"] (aN (top 28)):=cA
theorem WX (d kf:Nat)(T:Tb mg)(RD:jL K mg C jd dZ fH ig d8 gC je iI)(iM:Dn K mg "told_kind" ["reader"] (top 28) sX sY)(j_:Dn K mg "told_form" ["reader"] (top 29) Cj Ck)(agl:aB P w K mg base (bK P w) ((kf+6)+1) Cj Ck ["reader"] (Wz d C cN))(gj:Dm K "passed" "Reader.passed" ["self","sort","thing"] (aR 24 5) d8 mF)(jz:aB P w K mg base aO (2) d8 mF ["self","sort","thing"] (u_ C)):aB P w K mg base (bK P w) ((kf+7)+1) sX sY ["reader"] (Cp d C cN):=by
 have CT:=RD.ct
 have sO:=RD.p
 refine mC iM.F WW (λvs H Q E h=>?_) (λcdv A outer s H vs Q E hr h=>?_)
 . obtain⟨r,dx,l,us,qs,i,k,c,p,rfl,_⟩:=h
   rfl
 obtain⟨r,dx,l,us,qs,i,k,c,p,rfl,hR,hP,hdp,hN,hkl,fin,fe⟩:=h
 have nd:=WW.nd
 refine⟨_,(aC (aQ (i:=1) nd rfl (Or.inl rfl) au)
  (aC (Ae PassesOwn.leaving (iV (gM (pv 0) CT sO jz (hr.mono (by omega)) gj.b .nil aY (aj aD (aj aD ak)))) (aH (Ft (i:=1) nd rfl (Or.inl rfl) au Fv)))
  (aC (aQ (i:=2) nd rfl (Or.inl rfl) (aV agl (hr.mono (by omega)) rfl j_.m j_.F.kp j_.b .nil (dY λ_ _ _ z=>z) (aj (pv 0) ak)))
  (aC (lQ PassesOwn.leaving rfl (wG rfl T.uV (aj (pv 1) ak)) (dw (i:=3) nd rfl (Or.inl rfl)) (aH (aQ (i:=2) nd rfl (Or.inl rfl) (bH (aj aD (aj (pv 2) ak))))))
  (aH (aW (pv 2))))))),?_⟩
 obtain⟨n,b,hnt,rfl⟩:=WM k
 have hP':=hP
 rw[Ia] at hP'
 obtain⟨hPt,hPb⟩:=hP'.app
 have hlr:(List.replicate n (aK jg)).length=n:=List.length_replicate
 rw[hlr] at hPb
 have hlen:(kh n b).tk.length=n+b.tk.length:=by rw[Ia,List.length_append,hlr]
 have hbp:=b.HX
 have hR0:Rd H H C r dx l us qs (i+0):=⟨λ_ _ _ e=>e,hR⟩
 have stop:∃N c',N<=n/\N<=c/\cO qs (i+N) b.tk c' p/\(b.tk.length<=c'->N=n/\(kh n b).tk.length<=c)/\(c'<b.tk.length->c<(kh n b).tk.length):=by
  by_cases hcn:n<=c
  . exact⟨n,c - n,Nat.le_refl _,hcn,hPb hcn,λh=>⟨rfl,by omega⟩,λh=>by omega⟩
  . have hb:=hPt.bad (by rw[hlr];omega)
    exact⟨c,0,by omega,Nat.le_refl _,qC.e hb,λh=>by omega,λh=>by omega⟩
 obtain⟨N,c',hN1,hN2,WY,hyes,hno⟩:=stop
 obtain⟨qb,sZ,hqn⟩:=agk hnt WY
 refine⟨λm σ H'=>∃j:Nat,m=N - j/\j<=N/\Rd H H' C r dx l us qs (i+j)/\σ=[some (.ref r),some (.int j),none,none],⟨_,0,rfl,Nat.zero_le _,hR0,rfl⟩,?_⟩
 rintro m σ H' ⟨j,rfl,hj,R4,rfl⟩
 rcases Nat.lt_or_ge j N with hlt|hge
 . obtain⟨q4,gO,a0,a1⟩:=hPt.good j (aK jg) (by omega) (by rw[List.getElem?_replicate,if_pos (by omega)])
   refine⟨_,rfl,r,dx,_,rfl,R4.at_.ob,rfl,r,dx,l,us,qs,i+j,q4,"name","tree",rfl,R4.at_,gO,.inl ⟨⟨by rw[a0];rfl,by rw[a1];rfl⟩,λH5 oY=>⟨_,rfl,bT ?_⟩⟩⟩
   refine⟨_,λ_ _ z=>z,?_⟩
   exact⟨_,rfl,_,_,rfl,rfl,N - (j+1),by omega,j+1,rfl,hlt,R4.trans (Rd.of R4.at_ oY),rfl⟩
 . have ej:j=N:=by omega
   subst ej
   refine⟨_,rfl,r,dx,_,rfl,R4.at_.ob,rfl,r,dx,l,us,qs,i+j,qb,"name","tree",rfl,R4.at_,sZ,.inr ⟨hqn,_,rfl,aZ ?_⟩⟩
   refine⟨_,rfl,r,dx,l,us,qs,i+j,b,c',p,rfl,R4.at_,WY,hnt,Nat.le_trans (WR n b) hdp,WQ n b hN,by omega,λhgd v H5 R5 jk=>?_,λhbd=>(fe (hno hbd)).mono R4.kp⟩
   obtain⟨hjn,hall⟩:=hyes hgd
   subst hjn
   have el:i+j+b.tk.length=i+(kh j b).tk.length:=by omega
   have R6:=R4.trans R5
   rw[el] at R6
   have em:Int.toNat (j:Int)=j:=by omega
   have agn:TA (λt=>H t=none) H5 b v:=jk.mv (λ_ _ e=>e) (λ_ _ _ e=>e) λ_ h=>Rd.lo hR R4 h
   refine⟨_,rfl,_,rfl,by omega,by omega,uD (n:=Int.toNat (j:Int)) (λc σ H'=>∃(v':V) (x:Option V),σ=[some (.ref r),some (.int j),some v',x]/\Rd H H' C r dx l us qs (i+(kh j b).tk.length)/\TA (λt=>H t=none) H' (kh c b) v') ⟨v,_,rfl,R6,agn⟩ ?_ ?_⟩
   . rintro c σ H' hc ⟨v',x,rfl,R7,tD⟩
     refine⟨_,rfl,bC,λa ha=>?_⟩
     refine⟨_,_,rfl,R7.same (Same.new ha),a,v',rfl,aG,tD.mv (λc xs e=>by rw[aq (aJ e ha)];exact e) (λl' us' _ e=>by rw[aq (aJ e ha)];exact e) λ_ h=>h⟩
   . rintro σ H' ⟨v',x,rfl,R7,tD⟩
     rw[em] at tD
     exact⟨_,rfl,fin hall v' H' R7 tD⟩
theorem W0:bR ["reader","name"] ["reader"] (aN (top 30)):=cA
theorem ago (d kf:Nat)(T:Tb mg)(RD:jL K mg C jd dZ fH ig d8 gC je iI)(ji:Dn K mg "told_field" ["reader"] (top 30) jO qD)(iM:Dn K mg "told_kind" ["reader"] (top 28) sX sY)(Ib:aB P w K mg base (bK P w) ((kf+7)+1) sX sY ["reader"] (Cp d C cN))(iJ:Dm K "taken" "Reader.taken" ["self","sort"] (aR 24 3) fH oW)(mK:aB P w K mg base (bK P w) (3+1) fH oW ["self","sort"] (yp C cN))(jM:Dm K "pass_mark" "Reader.pass_mark" ["self","mark"] (aR 24 6) gC sJ)(oX:aB P w K mg base (bK P w) (3+1) gC sJ ["self","mark"] (B_ C cN)):aB P w K mg base (bK P w) ((kf+8)+1) jO qD ["reader"] (vp (d+1) C cN):=by
 have CT:=RD.ct
 have vB:=RD.t
 have Cg:=RD.k
 refine mC ji.F W0 (λvs H Q E h=>?_) (λcdv A outer s H vs Q E hr h=>?_)
 . obtain⟨r,dx,l,us,qs,i,x,k,c,p,rfl,_⟩:=h
   rfl
 obtain⟨r,dx,l,us,qs,i,x,k,c,p,rfl,hR,hP,hdp,hN,hkl,fin,fe⟩:=h
 have nd:=W0.nd
 refine⟨_,(aC (aQ (i:=1) nd rfl (Or.inl rfl) (gM (pv 0) CT vB mK (hr.mono (by omega)) iJ.b .nil (dY λ_ _ _ z=>z) (aj aD ak)))
  (aC (gW (gM (pv 0) CT Cg oX (hr.mono (by omega)) jM.b .nil (dY λ_ _ _ z=>z) (aj aD ak)))
  (aH (aW (bH (aj (pv 1) (aj (aV Ib (hr.mono (by omega)) rfl iM.m iM.F.kp iM.b .nil (dY λ_ _ _ z=>z) (aj (pv 0) ak)) ak))))))),?_⟩
 rcases cO.cons (t:=aK (sl x)) hP with⟨hz,q,hq,d0,d1,d2⟩|⟨c1,hc1,⟨q,hq,g0,g1⟩,qF⟩
 . exact⟨_,rfl,r,dx,_,rfl,hR.ob,rfl,r,dx,l,us,qs,i,q,"name",rfl,hR,hq,.inr ⟨(jC d0).2,by rw[d2];exact(fe (by omega)).rf⟩⟩
 refine⟨_,rfl,r,dx,_,rfl,hR.ob,rfl,r,dx,l,us,qs,i,q,"name",rfl,hR,hq,.inl ⟨by rw[g0];rfl,λH1 HN=>?_⟩⟩
 have R1:=Rd.of hR HN
 have ex:q.th.V=.str x:=by rw[g1];show V.str (ao (sl x))=_;rw[uW]
 rw[ex]
 rcases cO.cons (t:=mkT 58) qF with⟨hz,q2,hq2,d0,d1,d2⟩|⟨c2,hc2,⟨q2,hq2,b0,b1⟩,hP2⟩
 . exact⟨_,rfl,r,dx,_,rfl,R1.at_.ob,rfl,r,dx,l,us,qs,i+1,q2,_,rfl,R1.at_,hq2,.inr ⟨λz=>(jC d0).1 z.1,by rw[d2];exact((fe (by omega)).mono R1.kp).rf⟩⟩
 refine⟨_,rfl,r,dx,_,rfl,R1.at_.ob,rfl,r,dx,l,us,qs,i+1,q2,_,rfl,R1.at_,hq2,.inl ⟨⟨by rw[b0];rfl,by rw[b1];rfl⟩,λH2 mv2=>?_⟩⟩
 have R2:=R1.trans (Rd.of R1.at_ mv2)
 refine⟨_,rfl,_,rfl,r,dx,l,us,qs,i+1+1,k,c2,p,rfl,R2.at_,hP2,Nat.le_of_lt_succ hdp,hN,hkl,λhgd v H3 R3 jk=>⟨bC,λa ha=>?_⟩,λhbd=>(fe (by omega)).mono R2.kp⟩
 have R4:=R2.trans R3
 rw[show i+1+1+k.tk.length=i+(k.tk.length+2) by omega] at R4
 exact fin (by omega) a v _ (R4.same (Same.new ha)) aG (jk.mv (λc xs e=>by rw[aq (aJ e ha)];exact e) (λl' us' _ e=>by rw[aq (aJ e ha)];exact e) λ_ h=>Rd.lo hR R2 h)
theorem W2 (T:Tb mg)(RD:jL K mg C jd dZ fH ig d8 gC je iI)(hF:∀H,aM K H mJ mH)(yD:mg "FORMS"=some (.ref mJ))(ji:Dn K mg "told_field" ["reader"] (top 30) jO qD)(j_:Dn K mg "told_form" ["reader"] (top 29) Cj Ck)(iM:Dn K mg "told_kind" ["reader"] (top 28) sX sY)(j9:Dm K "listed" "Reader.listed" ["self","first","last","read_one"] (aR 24 8) iI Ce)(nM:Dm K "taken_among" "Reader.taken_among" ["self","names"] (aR 24 4) ig yC)(yE:aB P w K mg base (bK P w) (4+1) ig yC ["self","names"] (HW K C cN))(iJ:Dm K "taken" "Reader.taken" ["self","sort"] (aR 24 3) fH oW)(mK:aB P w K mg base (bK P w) (3+1) fH oW ["self","sort"] (yp C cN))(gD:Dm K "is_at" "Reader.is_at" ["self","sort","thing"] (aR 24 1) dZ mD)(j6:aB P w K mg base aO (1) dZ mD ["self","sort","thing"] (u9 C))(gj:Dm K "passed" "Reader.passed" ["self","sort","thing"] (aR 24 5) d8 mF)(jz:aB P w K mg base aO (2) d8 mF ["self","sort","thing"] (u_ C))(jM:Dm K "pass_mark" "Reader.pass_mark" ["self","mark"] (aR 24 6) gC sJ)(oX:aB P w K mg base (bK P w) (3+1) gC sJ ["self","mark"] (B_ C cN)):
 ∀d:Nat,aB P w K mg base (bK P w) (8 * d+1) jO qD ["reader"] (vp d C cN)/\aB P w K mg base (bK P w) ((8 * d+7)+1) sX sY ["reader"] (Cp d C cN)
 |0=>by
  have F:aB P w K mg base (bK P w) (8 * 0+1) jO qD ["reader"] (vp 0 C cN):=HJ λvs H Q E ⟨_,_,_,_,_,_,_,_,_,_,_,_,_,h,_⟩=>Nat.not_lt_zero _ h
  exact⟨F,WX 0 (8 * 0) T RD iM j_ (WL 0 (8 * 0) T RD hF yD j_ ji j9 (Wq 0 (8 * 0) T RD j9 ji.F.kp ji.b F gD j6 gj jz jM oX) nM yE iJ mK gD j6 gj jz) gj jz⟩
 |d+1=>by
  obtain⟨_,ih⟩:=W2 T RD hF yD ji j_ iM j9 nM yE iJ mK gD j6 gj jz jM oX d
  have F:aB P w K mg base (bK P w) (8 * (d+1)+1) jO qD ["reader"] (vp (d+1) C cN):=ago d (8 * d) T RD ji iM ih iJ mK jM oX
  exact⟨F,WX (d+1) (8 * (d+1)) T RD iM j_ (WL (d+1) (8 * (d+1)) T RD hF yD j_ ji j9 (Wq (d+1) (8 * (d+1)) T RD j9 ji.F.kp ji.b F gD j6 gj jz jM oX) nM yE iJ mK gD j6 gj jz) gj jz⟩
end
end Pb
namespace L2
open PySem PySem.Spec PyProof.Rows
section
variable {X:Cx}
noncomputable def agp (K:W.Frag) (n:Nat):R2:=λx y H Q=>(x=.non/\(∃b ys,y=.ref b/\aM K H b ys)/\Q (.bl false) H)\/GQ K n x y H Q
theorem W3 {n:Nat}(hu:X.A.units+1+n<cLine):dJ X (compareOp .Eq) (agp X.K n):=by
 intro pins s σ H x y v u Q I rx ry h
 rcases h with⟨rfl,⟨b,ys,rfl,hb⟩,q⟩|h
 . cases rx
   cases ry
   obtain⟨its,r1,p1,_⟩:=I.tuple hb
   exact SeqAt.RcAt.none_tuple p1 (by omega) _ _ _ _ ⟨.bl false,H,I,rfl,q⟩
 . exact Ut hu pins s σ H x y v u Q I rx ry h
end
end L2
namespace Pb
open PySem L2 PyProof.Rows PySem.Spec PySem.StrLaws PySem.Builtin PySem.Builtin.Str
noncomputable def jP (H:Hp) (u:V) (pl:Bool):Prop:=∃a f rest,u=.ref a/\H a=some (.tup (.str f::rest))/\(pl=true->rest=[]/\(f="number"\/f="word"))/\(pl=false->f≠"number"/\f≠"word")/\∀v∈rest,(∃s,v=.str s)\/∃c,v=.ref c
theorem jP.mono {H H':Hp}(t:Tu H H'){u:V}{pl:Bool}(h:jP H u pl):jP H' u pl:=by
 obtain⟨a,f,rest,e,h1,h2⟩:=h
 exact⟨a,f,rest,e,t _ _ h1,h2⟩
theorem jP.of {H:Hp}{u:V}:∀{k:Kd},KA H u k->∃pl,jP H u pl
 | .num,h=>by
   unfold KA at h
   obtain⟨a,e,q⟩:=h
   exact⟨true,a,_,_,e,q,λ_=>⟨rfl,.inl rfl⟩,(λz=>by cases z),λv hv=>nomatch hv⟩
 | .bQ,h=>by
   unfold KA at h
   obtain⟨a,e,q⟩:=h
   exact⟨true,a,_,_,e,q,λ_=>⟨rfl,.inr rfl⟩,(λz=>by cases z),λv hv=>nomatch hv⟩
 | .bW fs,h=>by
   unfold KA at h
   obtain⟨a,b,vs,e,q,_⟩:=h
   exact⟨false,a,_,_,e,q,(λz=>by cases z),(λ_=>by decide),λv hv=>by rw[List.mem_singleton.mp hv];exact .inr ⟨_,rfl⟩⟩
 | .rows key by_ fs,h=>by
   unfold KA at h
   obtain⟨a,b,vs,e,q,_⟩:=h
   refine⟨false,a,_,_,e,q,(λz=>by cases z),(λ_=>by decide),λv hv=>?_⟩
   simp only[List.mem_cons,List.mem_nil_iff,or_false] at hv
   rcases hv with z|z|z <;> subst z
   . exact .inl ⟨_,rfl⟩
   . exact .inl ⟨_,rfl⟩
   . exact .inr ⟨_,rfl⟩
 | .tree k,h=>by
   unfold KA at h
   obtain⟨a,b,e,q,hk⟩:=h
   obtain⟨_,c,_,_,ec,_⟩:=jP.of hk
   exact⟨false,a,_,_,e,q,(λz=>by cases z),(λ_=>by decide),λv hv=>by rw[List.mem_singleton.mp hv];exact .inr ⟨c,ec⟩⟩
 | .bV fs,h=>by
   unfold KA at h
   obtain⟨a,b,vs,e,q,_⟩:=h
   exact⟨false,a,_,_,e,q,(λz=>by cases z),(λ_=>by decide),λv hv=>by rw[List.mem_singleton.mp hv];exact .inr ⟨_,rfl⟩⟩
noncomputable abbrev Qd:=V × Str × Bool
noncomputable def Cq (H:Hp) (q:Qd):Prop:=∃c u,q.1=.ref c/\H c=some (.tup [.str q.2.1,u])/\jP H u q.2.2
noncomputable def mO (H:Hp) (qs:List Qd):Prop:=∀q∈qs,Cq H q
noncomputable def nms (qs:List Qd):List Str:=qs.map (·.2.1)
noncomputable def cG (qs:List Qd):List V:=qs.map (·.1)
theorem Cq.mono {H H':Hp}(t:Tu H H'){q:Qd}(h:Cq H q):Cq H' q:=by
 obtain⟨c,u,e,h1,h2⟩:=h
 exact⟨c,u,e,t _ _ h1,h2.mono t⟩
theorem mO.mono {H H':Hp}(t:Tu H H'){qs:List Qd}(h:mO H qs):mO H' qs:=λq hq=>(h q hq).mono t
noncomputable def sle (x y:Str):Prop:=xH (cT x) (cT y)
noncomputable def slt (x y:Str):Prop:=gB (cT x) (cT y)=true
theorem Ie (x y:Str)(h:slt x y):¬slt y x:=λh2=>by
 have z:=xG _ _ _ h h2
 rw[GP] at z
 cases z
theorem agq {x y:Str}(h:cT x=cT y):x=y:=Sum.inr.inj (List.cons.inj h).1
theorem yF {x y:Str}(h:sle x y):slt x y\/x=y:=by
 rcases Bf (cT x) (cT y) with q|q|q
 . exact .inl q
 . exact .inr (agq q)
 . have h:gB (cT y) (cT x)=false:=h
   rw[h] at q;cases q
theorem agr {x y:Str}(h:slt x y):sle x y:=by
 unfold sle xH
 cases e:gB (cT y) (cT x) with
 |false=>rfl
 |true=>exact absurd e (Ie _ _ h)
theorem ags {x y z:Str}(h1:sle x y)(h2:sle y z):sle x z:=by
 rcases yF h1 with a|a
 . rcases yF h2 with b|b
   . exact agr (xG _ _ _ a b)
   . rw[<-b];exact h1
 . rw[a];exact h2
theorem agt (x y:Str):ltCps x.cps.toList y.cps.toList=gB (cT x) (cT y):=by
 rw[G3]
 exact ltCps_eq _ _
theorem W4:∀{ss:List Str},sortedS ss=true->ss.Pairwise sle
 |[],_=>.nil
 |[x],_=>List.pairwise_singleton _ _
 |x::y::r,h=>by
  have h:(!ltCps y.cps.toList x.cps.toList && risingS y r)=true:=h
  obtain⟨h1,h2⟩:=Bool.and_eq_true_iff.mp h
  have ih:(y::r).Pairwise sle:=W4 (ss:=y::r) h2
  have hxy:sle x y:=by
   rw[agt] at h1
   unfold sle xH
   cases e:gB (cT y) (cT x) with
   |false=>rfl
   |true=>rw[e] at h1;cases h1
  refine .cons (λz hz=>?_) ih
  rcases List.mem_cons.mp hz with e|e
  . rw[e];exact hxy
  . exact ags hxy ((List.pairwise_cons.mp ih).1 z e)
theorem W5 {qs:List Qd}(h:(nms qs).Pairwise sle)(nd:(nms qs).Nodup):qs.Pairwise λa b=>slt a.2.1 b.2.1:=by
 have h1:=List.pairwise_map.mp h
 have h2:qs.Pairwise λa b=>a.2.1≠b.2.1:=List.pairwise_map.mp nd
 refine(h1.and h2).imp λ{a b} ⟨x,y⟩=>?_
 rcases yF x with z|z
 . exact z
 . exact absurd z y
theorem W6 {α:Type}{R:α->α->Prop}(as:∀a b,R a b->¬R b a):∀{l1 l2:List α},l1.Perm l2->l1.Pairwise R->l2.Pairwise R->l1=l2
 |[],l2,p,_,_=>by rw[p.nil_eq]
 |a::r,[],p,_,_=>absurd p.length_eq (by simp)
 |a::r,b::q,p,h1,h2=>by
  obtain⟨a1,a2⟩:=List.pairwise_cons.mp h1
  obtain⟨b1,b2⟩:=List.pairwise_cons.mp h2
  have hab:a=b:=by
   have ha:a∈b::q:=p.mem_iff.mp List.mem_cons_self
   have hb:b∈a::r:=p.mem_iff.mpr List.mem_cons_self
   rcases List.mem_cons.mp ha with e|e
   . exact e
   . rcases List.mem_cons.mp hb with e2|e2
     . exact e2.symm
     . exact absurd (a1 b e2) (as b a (b1 a e))
  subst hab
  rw[W6 as ((List.perm_cons a).mp p) a2 b2]
theorem agu {q1 q2:List Qd}(p:q1.Perm q2)(h1:(nms q1).Pairwise sle)(h2:(nms q2).Pairwise sle)(nd:(nms q2).Nodup):q1=q2:=
 W6 (λa b=>Ie _ _) p (W5 h1 ((p.map _).nodup_iff.mpr nd)) (W5 h2 nd)
theorem W7:∀{ss:List Str},ss.Pairwise sle->¬ss.Nodup->∃i,0<i/\∃h:i<ss.length,ss[i]=ss[i - 1]'(by omega)
 |[],_,h=>absurd List.nodup_nil h
 |[x],_,h=>absurd (by simp) h
 |x::y::r,h,nd=>by
  obtain⟨h1,h2⟩:=List.pairwise_cons.mp h
  by_cases e:x=y
  . exact⟨1,by decide,by simp,by simp[e]⟩
  . have nd':¬(y::r).Nodup:=λn=>nd (List.nodup_cons.mpr ⟨λhm=>by
     rcases List.mem_cons.mp hm with z|z
     . exact e z
     . have a:=h1 y List.mem_cons_self
       have b:=(List.pairwise_cons.mp h2).1 x z
       rcases yF a with p|p
       . rcases yF b with q|q
         . exact Ie _ _ p q
         . exact e q.symm
       . exact e p,n⟩)
    obtain⟨i,i0,hi,ee⟩:=W7 h2 nd'
    refine⟨i+1,by omega,by simpa using hi,?_⟩
    obtain⟨j,rfl⟩:∃j,i=j+1:=⟨i - 1,by omega⟩
    simpa using ee
theorem W8 {x:Str}(h:x.length<=12)(hc:∀c∈x.cps.toList,c<128):(reprText x).length<=200:=by
 have:=reprText_len x λc hm=>Nat.lt_trans (hc c hm) (by decide)
 omega
end Pb
namespace Pb
open PySem L2 PyProof.Rows
theorem _root_.L2.bU.tab {P:Addr}{lp:Pos}{ql:Str}{H:Hp}(h:bU P lp ql H):∃ps,H P=some (.eF ps):=by
 rcases h with e|⟨c,e,_⟩ <;> exact⟨_,e⟩
theorem _root_.L2.bU.keep {P:Addr}{lp:Pos}{ql:Str}{H H':Hp}(h:bU P lp ql H)(k:∀c o,(∀xs,o≠ .lst xs)->(∀C d f,o≠ .ins C d f)->H c=some o->H' c=some o):bU P lp ql H':=by
 rcases h with e|⟨c,e,f⟩
 . exact .inl (k _ _ (by intro xs z;cases z) (by intro _ _ _ z;cases z) e)
 . exact .inr ⟨c,k _ _ (by intro xs z;cases z) (by intro _ _ _ z;cases z) e,k _ _ (by intro xs z;cases z) (by intro _ _ _ z;cases z) f⟩
theorem _root_.L2.bU.same {P:Addr}{lp:Pos}{ql:Str}{H H':Hp}(h:bU P lp ql H)(s:Same H H'):bU P lp ql H':=h.keep λc o _ _ e=>s c o e
theorem _root_.L2.bU.sb {P b:Addr}{lp:Pos}{ql:Str}{H H':Hp}{l:List V}(h:bU P lp ql H)(hb:H b=some (.lst l))(s:SB b H H'):bU P lp ql H':=
 h.keep λc o ho _ e=>s c o (fW e hb (ho l)) e
noncomputable def agv (st:Stmt):Pos:=match bI st with
 | .Assign _ (.Call _ [.Call _ _ [⟨_,.Lambda _ _ _ lp,_⟩] _] _ _) _::_=>lp
 |_=>⟨0,0,0,0⟩
noncomputable abbrev cZ:Pos:=agv (top 8)
noncomputable abbrev dg:Str:=("sorted_fields":Str)++".<locals>."++"<lambda>"
structure Cr (K:W.Frag) (mg:Str->Option Value) (base:Heap) (C:Addr):Prop where
 own:OwnCls "NoKind" C BZ "ValueError.__new__" mg base
noncomputable abbrev gk (Pt:Addr) (H H':Hp):Prop:=Kp (λc=>c=Pt) H H'
theorem gk.tu {Pt:Addr}{H H':Hp}{lp:Pos}{ql:Str}(x:gk Pt H H')(hT:bU Pt lp ql H):Tu H H':=λc xs h=>by
 obtain⟨ps,hP⟩:∃ps,H Pt=some (.eF ps):=by
  rcases hT with e|⟨c',e,_⟩
  . exact⟨_,e⟩
  . exact⟨_,e⟩
 exact x c _ (fW h hP (by intro z;cases z)) h
noncomputable def Cu (K:W.Frag) (Pt d9:Addr):Sp:=λvs H Q E=>∃l qs,vs=[.ref l]/\aL K H l (cG qs)/\mO H qs/\qs.length<=13/\(∀x∈nms qs,x.length<=12)/\bU Pt cZ dg H/\
 ((nms qs).Nodup->∀t bB H',gk Pt H H'->bU Pt cZ dg H'->H' t=some (.tup (cG bB))->bB.Perm qs->(nms bB).Pairwise sle->Q (.ref t) H')/\
 (¬(nms qs).Nodup->∀H',gk Pt H H'->bU Pt cZ dg H'->E (.ref d9) none H')
theorem agw {qs:List Qd}{i:Nat}{v:V}(h:(cG qs)[i]? =some v):∃q,qs[i]? =some q/\q.1=v:=by
 have h:(qs.map (·.1))[i]? =some v:=h
 rw[List.getElem?_map] at h
 cases e:qs[i]? with
 |none=>rw[e] at h;cases h
 |some q=>rw[e] at h;exact⟨q,rfl,Option.some.inj h⟩
theorem qG (qs:List Qd):(cG qs).length=qs.length:=List.length_map _
theorem qH (qs:List Qd):(nms qs).length=qs.length:=List.length_map _
noncomputable def q0:Qd:=(.non,"",false)
theorem agx (qs:List Qd)(p:List Nat):cG (p.map λi=>qs.getD i q0)=p.map λi=>(cG qs).getD i .non:=by
 unfold cG
 rw[List.map_map]
 refine List.map_congr_left λi _=>?_
 show(qs.getD i q0).1=_
 rw[List.getD_eq_getElem?_getD,List.getD_eq_getElem?_getD,List.getElem?_map]
 cases qs[i]? <;> rfl
theorem agy (qs:List Qd){p:List Nat}(h:p.Perm (List.range qs.length)):(p.map λi=>qs.getD i q0).Perm qs:=by
 have:=h.map λi=>qs.getD i q0
 rw[GJ] at this
 exact this
variable {P:Program}{w:World}{K:W.Frag}{mg:Str->Option Value}{base:Heap}
theorem W9:bR ["pairs","fields","number","name"] ["pairs"] (aN (top 8)):=cA
theorem agz {Pt c d9:Addr}(T:Tb mg)(iw:Dn K mg "sorted_fields" ["pairs"] (top 8) tE qI)(hcode:qI.code=.ref c)(hCd:W.CodeHd base c Pt)(xP:BM mg base)(tG:Cr K mg base d9):aB P w K mg base (jw P w) 8 tE qI ["pairs"] (Cu K Pt d9):=by
 refine iw.F.aez hcode W9 (λvs H Q E h=>?_) (λA outer s H vs Q E hr h=>?_)
 . obtain⟨l,qs,rfl,_⟩:=h
   rfl
 obtain⟨l,qs,rfl,hl,hp,h13,tH,hT,q1,q2⟩:=h
 have nd:=W9.nd
 have hu:=TV hr
 refine⟨_,(aC (aQ (i:=1) nd rfl (Or.inl rfl) (uI Ao (by rfl) T.BK boot_tuple (aj (aew (te:=(uE (Tj K) (jo 0) (tC (.int 0)))) (x:="pair") (N':=["","","",""]) rfl T.Ho boot_sorted hr rfl rfl hCd xP (uN.of (N:=["pairs","fields","number","name"]) (sc:=aN (top 8)) rfl rfl rfl rfl rfl (by decide +kernel)) rfl (λ_ _ _ _ _=>rfl) (pv 0) (λ_ _ _ _ _=>(aU bY (pv 0) au (λ_ _=>rfl)))) ak)))
  (aC (lQ PassesOwn.leaving rfl (acK rfl T.uV (aj au (aj (gb pU (by rfl) T.jJ PySem.boot_len (aj (pv 1) ak)) ak))) (dw (i:=2) nd rfl (Or.inl rfl)) (aC (aQ (i:=3) nd rfl (Or.inl rfl) (aU bY (aU bY (pv 1) (pv 2) (λ_ _=>rfl)) au (λ_ _=>rfl)))
  (aH (bF (bh cj (pv 3) (aU bY (aU bY (pv 1) (aF lU (pv 2) au) (λ_ _=>rfl)) au (λ_ _=>rfl)) (bw _)) (aH (xJ tG.own F.excBase_ValueError rfl rfl xK (aj (Bl (pZ (k:=40) (aes (k:=200) (pv 3) (pZ (k:=40) Bk)))) ak))) bG))))
  (aH (aW (pv 1))))),?_⟩
 refine⟨_,rfl,l,cG qs,rfl,hl,by rw[qG];omega,hT,λc' H2 hL2 mono=>?_⟩
 have W_:gk Pt H H2:=λcc o hc e=>mono cc o hc e
 have hp2:mO H2 qs:=hp.mono (W_.tu hT)
 refine⟨λks H3=>H3=H2/\ks.length<=qs.length/\ks=((nms qs).map V.str).take ks.length,⟨rfl,Nat.zero_le _,rfl⟩,λks H3 hw=>by rw[hw.1];exact hL2,?_,?_⟩
 . rintro ks H3 yv ⟨rfl,hle,hks⟩ hy
   obtain⟨qq,hq,rfl⟩:=agw hy
   obtain⟨cc,u,ec,hc,hk⟩:=hp2 qq (List.mem_of_getElem? hq)
   obtain⟨qv,qn,qb⟩:=qq
   have ec:qv=.ref cc:=ec
   subst ec
   have hlt:ks.length<qs.length:=(List.getElem?_eq_some_iff.mp hq).1
   refine⟨_,rfl,cc,_,_,_,rfl,rfl,aM.of hc,rfl,rfl,by rw[List.length_append];exact hlt,?_⟩
   rw[List.length_append]
   show _=List.take (ks.length+1) _
   rw[List.take_succ,<-hks,List.getElem?_map]
   have:(nms qs)[ks.length]? =some qn:=by
    show(qs.map (·.2.1))[ks.length]? =_
    rw[List.getElem?_map,hq];rfl
   rw[this]
   rfl
 . rintro ks H3 ⟨rfl,_,hks⟩ hlen
   have hks:ks=(nms qs).map V.str:=by
    rw[hks,hlen,qG,List.take_of_length_le (by rw[List.length_map,qH];exact Nat.le_refl _)]
   refine⟨nms qs,hks,λp hpm hs D hD=>?_⟩
   rw[qG] at hpm
   rw[<-agx]
   have hperm:=agy qs hpm
   have Ig:(nms (p.map λi=>qs.getD i q0)).Pairwise sle:=by
    show((p.map λi=>qs.getD i q0).map (·.2.1)).Pairwise sle
    rw[List.map_map,List.pairwise_map]
    rw[List.pairwise_map] at hs
    refine List.Pairwise.imp_of_mem (λ{i j} hi hj h=>?_) hs
    have ge:∀i∈p,((nms qs).map cT).getD i []=cT (qs.getD i q0).2.1:=λi hi=>by
     have hi':i<qs.length:=by
      have:=hpm.mem_iff.mp hi
      simpa using this
     unfold nms
     rw[List.getD_eq_getElem?_getD,List.getD_eq_getElem?_getD,List.getElem?_map,List.getElem?_map,List.getElem?_eq_getElem hi']
     rfl
    rw[ge i hi,ge j hj] at h
    exact h
   generalize (p.map λi=>qs.getD i q0)=bB at hperm Ig
   refine⟨D,cG bB,rfl,.inl ⟨aL.of aG,λt ht=>?_⟩⟩
   have sD:Same H3 (upd H3 D (.lst (cG bB))):=Same.new hD
   have s5:Same H3 (upd (upd H3 D (.lst (cG bB))) t (.tup (cG bB))):=sD.trans (Same.new ht)
   have Ih:gk Pt H (upd (upd H3 D (.lst (cG bB))) t (.tup (cG bB))):=W_.trans (Kp.of s5)
   have hT5:bU Pt cZ dg (upd (upd H3 D (.lst (cG bB))) t (.tup (cG bB))):=.inr ⟨c',hL2.mono λb o _ e=>s5 _ _ e⟩
   have qJ:upd (upd H3 D (.lst (cG bB))) t (.tup (cG bB)) t=some (.tup (cG bB)):=aG
   have kj:mO (upd (upd H3 D (.lst (cG bB))) t (.tup (cG bB))) bB:=λq hq=>(hp2.mono (Tu.of s5)) q (hperm.mem_iff.mp hq)
   generalize upd (upd H3 D (.lst (cG bB))) t (.tup (cG bB))=H5 at Ih hT5 qJ kj
   have hlen':bB.length=qs.length:=hperm.length_eq
   have Xa:(nms bB).Nodup↔(nms qs).Nodup:=(hperm.map _).nodup_iff
   have Xb:∀j,j<bB.length->∃cc u,(cG bB)[j]? =some (.ref cc)/\H5 cc=some (.tup [.str ((nms bB).getD j ""),u]):=λj hj=>by
    obtain⟨cc,u,ec,hc,_⟩:=kj bB[j] (List.getElem_mem hj)
    refine⟨cc,u,?_,?_⟩
    . show(bB.map (·.1))[j]? =_
      rw[List.getElem?_map,List.getElem?_eq_getElem hj]
      exact congrArg some ec
    . have e:(nms bB).getD j ""=bB[j].2.1:=by
       unfold nms
       rw[List.getD_eq_getElem?_getD,List.getElem?_map,List.getElem?_eq_getElem hj]
       rfl
      rw[e];exact hc
   refine⟨_,rfl,t,_,rfl,.inr (aM.of qJ),_,_,rfl,⟨by decide,by decide,by omega,by rw[qG];omega⟩,uD (lo:=1) (n:=(((cG bB).length:Int) - 1).toNat) (λk σ H'=>H'=H5/\(∃y z,σ=[some (.ref l),some (.ref t),y,z])/\∀j,0<j->j<1+k->(nms bB).getD j ""≠(nms bB).getD (j - 1) "") ⟨rfl,⟨_,_,rfl⟩,λj h1 h2=>by omega⟩ ?_ ?_⟩
   . rintro k σ H' hk ⟨rfl,⟨y,z,rfl⟩,hno⟩
     rw[qG] at hk
     obtain⟨c1,u1,a1,b1⟩:=Xb (k+1) (by omega)
     obtain⟨c2,u2,a2,b2⟩:=Xb k (by omega)
     have e1:cM (cG bB) ((1:Int)+(k:Int))=some (.ref c1):=by
      have:=gZ (j:=k+1) a1
      rw[show((1:Int)+(k:Int))=((k+1:Nat):Int) by omega];exact this
     have e2:cM (cG bB) ((1:Int)+(k:Int) - 1)=some (.ref c2):=by
      have:=gZ (j:=k) a2
      rw[show((1:Int)+(k:Int) - 1)=((k:Nat):Int) by omega];exact this
     refine⟨_,rfl,_,rfl,t,_,_,_,rfl,rfl,aM.of qJ,e1,c1,_,_,_,rfl,rfl,aM.of b1,rfl,?_⟩
     refine⟨_,rfl,_,rfl,_,rfl,_,_,rfl,rfl,t,_,_,_,rfl,rfl,aM.of qJ,e2,c2,_,_,_,rfl,rfl,aM.of b2,rfl,rfl,_,rfl,bN (λcc=>?_) λcc=>?_⟩
     . have e:(nms bB).getD (k+1) ""=(nms bB).getD k "":=by
        have:=of_decide_eq_true cc
        injection this
       have hnn:¬(nms qs).Nodup:=λn=>by
        have n':=Xa.mpr n
        have hl1:k+1<(nms bB).length:=by rw[qH];omega
        have hl2:k<(nms bB).length:=by rw[qH];omega
        rw[List.getD_eq_getElem?_getD,List.getD_eq_getElem?_getD,List.getElem?_eq_getElem hl1,List.getElem?_eq_getElem hl2] at e
        have e:(nms bB)[k+1]=(nms bB)[k]:=e
        have:=List.pairwise_iff_getElem.mp n' k (k+1) hl2 hl1 (by omega)
        exact this e.symm
       have h12:((nms bB).getD (k+1) "").length<=200:=by
        have hl1:k+1<(nms bB).length:=by rw[qH];omega
        rw[List.getD_eq_getElem?_getD,List.getElem?_eq_getElem hl1]
        have:=tH ((nms bB)[k+1]) ((hperm.map (·.2.1)).mem_iff.mp (List.getElem_mem hl1))
        exact Nat.le_trans this (by decide)
       exact⟨⟨_,rfl,rfl,_,rfl,h12,trivial⟩,λx=>⟨cJ,q2 hnn _ Ih hT5⟩⟩
     . refine⟨rfl,⟨_,_,rfl⟩,λj h1 h2=>?_⟩
       by_cases e:j<1+k
       . exact hno j h1 e
       . have:j=k+1:=by omega
         subst this
         intro z
         exact cc (decide_eq_true (by rw[z];rfl))
   . rintro σ H' ⟨rfl,⟨y,z,rfl⟩,hno⟩
     have hn:(nms qs).Nodup:=by
      refine Xa.mp (Classical.byContradiction λn=>?_)
      obtain⟨i,i0,hi,ee⟩:=W7 Ig n
      refine hno i i0 ?_ ?_
      . rw[qG];rw[qH] at hi;omega
      . rw[List.getD_eq_getElem?_getD,List.getD_eq_getElem?_getD,List.getElem?_eq_getElem hi,List.getElem?_eq_getElem (by omega)]
        exact ee
     exact⟨_,rfl,q1 hn t bB _ Ih hT5 qJ hperm Ig⟩
noncomputable def Ii:Sp:=λvs H Q _=>∃u,vs=[u]/\((u=.non/\∀H',Same H H'->Q (.bl false) H')\/∃pl,jP H u pl/\∀H',Same H H'->Q (.bl pl) H')
noncomputable def Ij (K:W.Frag):Sp:=λvs H Q _=>∃t qs x,vs=[.ref t,.str x]/\aM K H t (cG qs)/\mO H qs/\
 (∀q∈qs,q.2.1=x->∀c u,q.1=.ref c->H c=some (.tup [.str x,u])->jP H u q.2.2->Q u H)/\(x ∉ nms qs->Q .non H)
theorem Ik {P:Program}{w:World}{K:W.Frag}{mg:Str->Option Value}{base:Heap}{k:Nat}{f:Addr}{fd:FuncData}{ps:List Str}{sp:Sp}(F:aB P w K mg base (jw P w) k f fd ps sp):aB P w K mg base (bK P w) k f fd ps sp:=
 ⟨F.len,λA outer s H args us vs Q E hr he hb hv hs=>codeAny_mono (F.run A outer s H args us vs Q E hr he hb hv hs) λr s' h=>by
   cases r with
   |error e=>
    obtain⟨a,T,C,H',rfl,⟨⟨oe,ws,t1,t2,t3,t4,t5⟩,tb,ne⟩,la,lT,na,nT,os,bare,un,hok,hE⟩:=h
    exact⟨a,T,C,none,H',rfl,⟨⟨oe,ws,t1,t2,t3,t4,t5⟩,tb,ne⟩,la,lT,na,nT,os,bare,un,hok,hE⟩
   |ok fl=>cases fl <;> exact h⟩
theorem str1 {f g:Str}{rest:List V}{K:W.Frag}{H:Hp}:Bj K H 0 (.str f::rest) [.str g] (λ_=>decide (f=g)):=λj x y h1 h2=>by
 cases j with
 |zero=>
  cases h1
  cases h2
  exact dM.str f g
 |succ j=>cases h2
theorem Xc (f g:Str)(rest:List V):((List.range (min (V.str f::rest).length [V.str g].length)).all (λ_=>decide (f=g)) && (V.str f::rest).length == [V.str g].length)=(decide (f=g) && decide (rest=[])):=by
 have e:min (V.str f::rest).length [V.str g].length=1:=by
  show min (rest.length+1) 1=1
  omega
 rw[e]
 have e2:((V.str f::rest).length == [V.str g].length)=decide (rest=[]):=by
  cases rest with
  |nil=>rfl
  |cons a r=>rfl
 rw[e2]
 show(((decide (f=g)) && true) && _)=_
 rw[Bool.and_true]
theorem Xd:bR ["kind"] ["kind"] (aN (top 6)):=cA
theorem agB (T:Tb mg)(mQ:Dn K mg "is_plain" ["kind"] (top 6) Il Im):aB P w K mg base aO (1) Il Im ["kind"] (Ii):=by
 refine mQ.F.ok Xd (λvs H Q E h=>?_) (λcdv A outer s H vs Q E hr h=>?_)
 . obtain⟨u,rfl,_⟩:=h
   rfl
 obtain⟨u,rfl,h⟩:=h
 have nd:=Xd.nd
 have hu:=TV hr
 refine⟨_,(aH (aW (acp (wJ (W3 (n:=0) hu) (pv 0) (bH (aj aD ak)) (bw _)) (Rv (wJ (W3 (n:=0) hu) (pv 0) (bH (aj aD ak)) (bw _)))))),?_⟩
 refine⟨_,rfl,cJ,λt ht=>?_⟩
 have s1:Same H (upd H t (.tup [.str "number"])):=Same.new ht
 rcases h with⟨rfl,q⟩|⟨pl,⟨a,f,rest,rfl,ha,hy,hn,_⟩,q⟩
 . refine .inl ⟨rfl,⟨t,_,rfl,aM.of aG⟩,_,rfl,aZ ?_⟩
   refine⟨_,rfl,cJ,λt2 jm=>?_⟩
   exact .inl ⟨rfl,⟨t2,_,rfl,aM.of aG⟩,q _ (s1.trans (Same.new jm))⟩
 . refine .inr ⟨a,t,_,_,_,rfl,rfl,str1,.inr ⟨aM.of (s1 _ _ ha),aM.of aG,?_⟩⟩
   rw[Xc]
   refine⟨_,rfl,bN (λc=>?_) λc=>?_⟩
   . obtain⟨c1,c2⟩:=Bool.and_eq_true_iff.mp c
     have c1:=of_decide_eq_true c1
     cases pl with
     |true=>exact q _ s1
     |false=>exact absurd c1 (hn rfl).1
   refine⟨_,rfl,cJ,λt2 jm=>?_⟩
   have s2:=s1.trans (Same.new (o:=.tup [.str "word"]) jm)
   refine .inr ⟨a,t2,_,_,_,rfl,rfl,str1,.inr ⟨aM.of (s2 _ _ ha),aM.of aG,?_⟩⟩
   rw[Xc]
   have e:(decide (f="word") && decide (rest=[]))=pl:=by
    cases pl with
    |true=>
     obtain⟨r0,r1⟩:=hy rfl
     rcases r1 with z|z
     . exact absurd (by rw[decide_eq_true z,decide_eq_true r0];rfl) c
     . rw[decide_eq_true z,decide_eq_true r0];rfl
    |false=>rw[decide_eq_false (hn rfl).2];rfl
   rw[e]
   exact q _ s2
theorem Xe:bR ["fields","name","pair"] ["fields","name"] (aN (top 7)):=cA
theorem agC (T:Tb mg)(mR:Dn K mg "kind_at" ["fields","name"] (top 7) Io Ip):aB P w K mg base aO (1) Io Ip ["fields","name"] (Ij K):=by
 refine mR.F.ok Xe (λvs H Q E h=>?_) (λcdv A outer s H vs Q E hr h=>?_)
 . obtain⟨b,qs,x,rfl,_⟩:=h
   rfl
 obtain⟨b,qs,x,rfl,hb,hp,q1,q2⟩:=h
 have nd:=Xe.nd
 refine⟨_,(aC (lQ PassesOwn.never rfl (acH (pv 0)) (dw (i:=2) nd rfl (Or.inl rfl)) (aH (bF (bh cj (aU bY (pv 2) au (λ_ _=>rfl)) (pv 1) (bw _)) (aH (aW (aU bY (pv 2) au (λ_ _=>rfl)))) bG)))
  (aH (aW acf))),?_⟩
 refine⟨_,rfl,b,rfl,⟨_,hb⟩,acO (xs:=cG qs) (λi σ H'=>H'=H/\(∃z,σ=[some (.ref b),some (.str x),z])/\∀j,j<i->(nms qs)[j]? ≠some x) ⟨rfl,⟨_,rfl⟩,λj hj=>absurd hj (by omega)⟩ ?_ ?_ ?_⟩
 . rintro i σ H' _ ⟨rfl,_⟩
   exact hb
 . rintro i v σ H' hv ⟨rfl,⟨z,rfl⟩,hno⟩
   obtain⟨qq,hq,rfl⟩:∃qq,qs[i]? =some qq/\qq.1=v:=by
    have hv:(qs.map (·.1))[i]? =some v:=hv
    rw[List.getElem?_map] at hv
    cases e:qs[i]? with
    |none=>rw[e] at hv;cases hv
    |some qq=>rw[e] at hv;exact⟨qq,rfl,Option.some.inj hv⟩
   have hm:qq∈qs:=List.mem_of_getElem? hq
   have hnm:(nms qs)[i]? =some qq.2.1:=by
    show(qs.map (·.2.1))[i]? =_
    rw[List.getElem?_map,hq];rfl
   obtain⟨c,u,ec,hc,hk⟩:=hp qq hm
   obtain⟨qv,qn,qb⟩:=qq
   have ec:qv=.ref c:=ec
   subst ec
   refine⟨_,rfl,c,_,_,_,rfl,rfl,aM.of hc,rfl,_,rfl,rfl,_,rfl,bN (λcc=>?_) (λcc=>?_)⟩
   . have e:qn=x:=by
      have:=of_decide_eq_true cc
      injection this
     subst e
     exact⟨_,rfl,c,_,_,_,rfl,rfl,aM.of hc,rfl,q1 _ hm rfl c u rfl hc hk⟩
   . refine⟨rfl,⟨_,rfl⟩,λj hj=>?_⟩
     by_cases e:j<i
     . exact hno j e
     . have:j=i:=by omega
       subst this
       rw[hnm]
       intro z
       cases z
       exact cc (decide_eq_true rfl)
 . rintro σ H' ⟨rfl,_,hno⟩
   refine q2 λhm=>?_
   obtain⟨j,hj,e⟩:=List.getElem_of_mem hm
   exact absurd (by rw[List.getElem?_eq_getElem hj,e]) (hno j (by have:(nms qs).length=(cG qs).length:=by simp[nms,cG]
                                                                  omega))
theorem agD {qs:List Qd}{q:Qd}(h:q∈qs):q.2.1∈nms qs:=List.mem_map_of_mem h
theorem agE {qs:List Qd}(nd:(nms qs).Nodup){q q':Qd}(h:q∈qs)(h':q'∈qs)(e:q.2.1=q'.2.1):q=q':=by
 obtain⟨i,hi,rfl⟩:=List.getElem_of_mem h
 obtain⟨j,hj,rfl⟩:=List.getElem_of_mem h'
 by_cases z:i=j
 . subst z;rfl
 . exfalso
   have hi':i<(nms qs).length:=by rw[qH];exact hi
   have hj':j<(nms qs).length:=by rw[qH];exact hj
   have ei:(nms qs)[i]=qs[i].2.1:=by simp[nms]
   have ej:(nms qs)[j]=qs[j].2.1:=by simp[nms]
   rcases Nat.lt_or_gt_of_ne z with l|l
   . exact List.pairwise_iff_getElem.mp nd i j hi' hj' l (by rw[ei,ej];exact e)
   . exact List.pairwise_iff_getElem.mp nd j i hj' hi' l (by rw[ei,ej];exact e.symm)
noncomputable def gG (qs:List Qd) (x:Str):Prop:=∃q∈qs,q.2.1=x/\q.2.2=true
noncomputable def okR (key by_:Str) (qs:List Qd):Prop:=gG qs key/\(by_=""\/gG qs by_)/\by_≠key
noncomputable def Cw (wh:Nat) (key by_:Str) (qs:List Qd):Prop:=(nms qs).Nodup/\(wh=1->qs≠[])/\(wh=2->okR key by_ qs)
noncomputable def Xf (wh:Nat) (key by_:Str) (t:Addr):List V:=if wh=0 then [.str "record",.ref t] else if wh=1 then [.str "either",.ref t] else [.str "rows",.str key,.str by_,.ref t]
noncomputable def vC (x:Str):Prop:=x.length<=12/\∀c∈x.cps.toList,c<128
noncomputable def Mk (K:W.Frag) (Pt d9:Addr) (wh:Nat) (key by_:Str) (l:Addr) (qs:List Qd) (H:Hp) (Q:VK) (E:XK):Prop:=aL K H l (cG qs)/\mO H qs/\qs.length<=13/\(∀x∈nms qs,x.length<=12)/\bU Pt cZ dg H/\vC key/\vC by_/\
 (Cw wh key by_ qs->∀r t bB H',gk Pt H H'->bU Pt cZ dg H'->H' r=some (.tup (Xf wh key by_ t))->H' t=some (.tup (cG bB))->bB.Perm qs->(nms bB).Pairwise sle->Q (.ref r) H')/\
 (¬Cw wh key by_ qs->∀H',gk Pt H H'->bU Pt cZ dg H'->E (.ref d9) none H')
noncomputable def Ir (K:W.Frag) (Pt d9:Addr):Sp:=λvs H Q E=>∃l qs,vs=[.ref l]/\Mk K Pt d9 0 "" "" l qs H Q E
noncomputable def Iu (K:W.Frag) (Pt d9:Addr):Sp:=λvs H Q E=>∃l qs,vs=[.ref l]/\Mk K Pt d9 1 "" "" l qs H Q E
noncomputable def Iv (K:W.Frag) (Pt d9:Addr):Sp:=λvs H Q E=>∃l qs key by_,vs=[.str key,.str by_,.ref l]/\Mk K Pt d9 2 key by_ l qs H Q E
theorem bU.new {Pt:Addr}{H:Hp}{t:Addr}{o:HO}(h:bU Pt cZ dg H)(ht:H t=none):bU Pt cZ dg (upd H t o):=by
 rcases h with e|⟨c',e⟩
 . exact .inl (by rw[aq (aJ e ht)];exact e)
 . exact .inr ⟨c',e.mono λb u _ z=>by rw[aq (aJ z ht)];exact z⟩
theorem Xg:bR ["pairs"] ["pairs"] (aN (top 9)):=cA
theorem agF {Pt d9:Addr}(T:Tb mg)(lA:Dn K mg "record_of" ["pairs"] (top 9) yG yH)(iw:Dn K mg "sorted_fields" ["pairs"] (top 8) tE qI)(yI:aB P w K mg base (jw P w) 8 tE qI ["pairs"] (Cu K Pt d9)):aB P w K mg base (jw P w) 9 yG yH ["pairs"] (Ir K Pt d9):=by
 refine lA.F.G6 Xg (λvs H Q E h=>?_) (λcdv A outer s H vs Q E hr h=>?_)
 . obtain⟨l,qs,rfl,_⟩:=h
   rfl
 obtain⟨l,qs,rfl,hl,hp,h13,tH,hT,_,_,q1,q2⟩:=h
 have nd:=Xg.nd
 refine⟨_,(aH (aW (bH (aj aD (aj (aV yI (hr.mono (by omega)) rfl iw.m iw.F.kp iw.b .nil (GX λ_ _ _ z=>z) (aj (pv 0) ak)) ak))))),?_⟩
 refine⟨_,rfl,l,qs,rfl,hl,hp,h13,tH,hT,λhn t bB H' kp hT' ht' hpm hs=>?_,λhn H' kp hT'=>q2 (λz=>hn z.1) H' kp hT'⟩
 refine⟨bC,λr hr'=>?_⟩
 exact q1 ⟨hn,(by intro z;cases z),by intro z;cases z⟩ r t bB _ (kp.trans (Kp.of (Same.new hr'))) (Pb.bU.new hT' hr') aG (by rw[aq (aJ ht' hr')];exact ht') hpm hs
theorem Xh:bR ["pairs","fields"] ["pairs"] (aN (top 10)):=cA
theorem agG {Pt d9:Addr}(T:Tb mg)(lB:Dn K mg "either_of" ["pairs"] (top 10) yJ yK)(iw:Dn K mg "sorted_fields" ["pairs"] (top 8) tE qI)(yI:aB P w K mg base (jw P w) 8 tE qI ["pairs"] (Cu K Pt d9))(tG:Cr K mg base d9):aB P w K mg base (jw P w) 9 yJ yK ["pairs"] (Iu K Pt d9):=by
 refine lB.F.G6 Xh (λvs H Q E h=>?_) (λcdv A outer s H vs Q E hr h=>?_)
 . obtain⟨l,qs,rfl,_⟩:=h
   rfl
 obtain⟨l,qs,rfl,hl,hp,h13,tH,hT,_,_,q1,q2⟩:=h
 have nd:=Xh.nd
 refine⟨_,(aC (aQ (i:=1) nd rfl (Or.inl rfl) (aV yI (hr.mono (by omega)) rfl iw.m iw.F.kp iw.b .nil (GX λ_ _ _ z=>z) (aj (pv 0) ak)))
  (aC (bF (bh cj (gb pU (by rfl) T.jJ PySem.boot_len (aj (pv 1) ak)) au (bw _)) (aH (xJ tG.own F.excBase_ValueError rfl rfl xK (aj aD ak))) bG)
  (aH (aW (bH (aj aD (aj (pv 1) ak))))))),?_⟩
 refine⟨_,rfl,l,qs,rfl,hl,hp,h13,tH,hT,λhn t bB H' kp hT' ht' hpm hs=>?_,λhn H' kp hT'=>q2 (λz=>hn z.1) H' kp hT'⟩
 refine⟨_,rfl,t,_,rfl,.inr (aM.of ht'),rfl,_,rfl,bN (λcc=>?_) λcc=>?_⟩
 . have e:((cG bB).length:Int)=0:=by
    have:=of_decide_eq_true cc
    injection this
   refine⟨cJ,q2 (λz=>z.2.1 rfl ?_) _ kp hT'⟩
   have:=hpm.length_eq
   rw[qG] at e
   exact List.eq_nil_of_length_eq_zero (by omega)
 . refine⟨_,rfl,bC,λr hr'=>?_⟩
   refine q1 ⟨hn,λ_ z=>cc (decide_eq_true ?_),by intro z;cases z⟩ r t bB _ (kp.trans (Kp.of (Same.new hr'))) (Pb.bU.new hT' hr') aG (by rw[aq (aJ ht' hr')];exact ht') hpm hs
   have:=hpm.length_eq
   rw[qG,this,z]
   rfl
theorem gG.perm {q1 q2:List Qd}(p:q1.Perm q2){x:Str}:gG q1 x↔gG q2 x:=⟨λ⟨q,h,r⟩=>⟨q,p.mem_iff.mp h,r⟩,λ⟨q,h,r⟩=>⟨q,p.mem_iff.mpr h,r⟩⟩
theorem gG.iff {qs:List Qd}(nd:(nms qs).Nodup){q:Qd}(h:q∈qs):q.2.2=true↔gG qs q.2.1:=
 ⟨λe=>⟨q,h,rfl,e⟩,λ⟨q',h',e1,e2⟩=>by rw[<-agE nd h' h e1];exact e2⟩
theorem Xi:bR ["key","by","pairs","fields"] ["key","by","pairs"] (aN (top 11)):=cA
theorem agH {Pt d9:Addr}(T:Tb mg)(lC:Dn K mg "rows_of" ["key","by","pairs"] (top 11) yL yM)(iw:Dn K mg "sorted_fields" ["pairs"] (top 8) tE qI)(yI:aB P w K mg base (jw P w) 8 tE qI ["pairs"] (Cu K Pt d9))(mQ:Dn K mg "is_plain" ["kind"] (top 6) Il Im)(Xj:aB P w K mg base aO (1) Il Im ["kind"] (Ii))(mR:Dn K mg "kind_at" ["fields","name"] (top 7) Io Ip)(Xk:aB P w K mg base aO (1) Io Ip ["fields","name"] (Ij K))(tG:Cr K mg base d9):aB P w K mg base (jw P w) 9 yL yM ["key","by","pairs"] (Iv K Pt d9):=by
 refine lC.F.G6 Xi (λvs H Q E h=>?_) (λcdv A outer s H vs Q E hr h=>?_)
 . obtain⟨l,qs,key,by_,rfl,_⟩:=h
   rfl
 obtain⟨l,qs,key,by_,rfl,hl,hp,h13,tH,hT,yN,Xl,q1,q2⟩:=h
 have nd:=Xi.nd
 refine⟨_,(aC (aQ (i:=3) nd rfl (Or.inl rfl) (aV yI (hr.mono (by omega)) rfl iw.m iw.F.kp iw.b .nil (GX λ_ _ _ z=>z) (aj (pv 2) ak)))
  (aC (bF (oE (iV (aV Xj (hr.mono (by omega)) rfl mQ.m mQ.F.kp mQ.b .nil aY (aj (aV Xk (hr.mono (by omega)) rfl mR.m mR.F.kp mR.b .nil aY (aj (pv 3) (aj (pv 0) ak))) ak)))) (aH (xJ tG.own F.excBase_ValueError rfl rfl xK (aj (Bl (pZ (k:=40) (GZ (k:=200) (pv 0) (pZ (k:=40) Bk)))) ak))) bG)
  (aC (bF (PW.pt (lO (bh wI (pv 1) aD (bw _)) (oA (oE (iV (aV Xj (hr.mono (by omega)) rfl mQ.m mQ.F.kp mQ.b .nil aY (aj (aV Xk (hr.mono (by omega)) rfl mR.m mR.F.kp mR.b .nil aY (aj (pv 3) (aj (pv 1) ak))) ak))))))) (aH (xJ tG.own F.excBase_ValueError rfl rfl xK (aj (Bl (pZ (k:=40) (GZ (k:=200) (pv 1) (pZ (k:=40) Bk)))) ak))) bG)
  (aC (bF (bh cj (pv 1) (pv 0) (bw _)) (aH (xJ tG.own F.excBase_ValueError rfl rfl xK (aj (Bl (pZ (k:=40) (GZ (k:=200) (pv 1) (pZ (k:=40) Bk)))) ak))) bG)
  (aH (aW (bH (aj aD (aj (pv 0) (aj (pv 1) (aj (pv 3) ak))))))))))),?_⟩
 refine⟨_,rfl,l,qs,rfl,hl,hp,h13,tH,hT,λhn t bB H1 qK hT1 ht1 hpm hs=>?_,λhn H' kp hT'=>q2 (λz=>hn z.1) H' kp hT'⟩
 have rk:(reprText key).length<=200:=W8 yN.1 yN.2
 have rb:(reprText by_).length<=200:=W8 Xl.1 Xl.2
 have nd':(nms bB).Nodup:=(hpm.map _).nodup_iff.mpr hn
 have hp1:mO H1 bB:=λq hq=>(hp.mono (qK.tu hT)) q (hpm.mem_iff.mp hq)
 have ask:∀(x:Str) (H2:Hp) (C:V->Hp->Prop),Same H1 H2->(∀b H3,Same H1 H3->(b=true↔gG qs x)->C (.bl b) H3)->
  Ij K [.ref t,.str x] H2 (λv H'=>Ii [v] H' C E0) E0:=λx H2 C s2 hC=>
  ⟨t,bB,x,rfl,aM.of (s2 _ _ ht1),hp1.mono (Tu.of s2),λq hq e c u _ _ hk=>⟨u,rfl,.inr ⟨_,hk,λH3 s3=>hC _ H3 (s2.trans s3) (by rw[<-e,gG.iff nd' hq];exact gG.perm hpm)⟩⟩,
    λhno=>⟨.non,rfl,.inl ⟨rfl,λH3 s3=>hC _ H3 (s2.trans s3) ⟨(by intro z;cases z),λz=>by
     obtain⟨q,hq,e,_⟩:=(gG.perm hpm).mpr z
     exact absurd (by rw[<-e];exact agD hq) hno⟩⟩⟩⟩
 have Cy:∀{H2:Hp},Same H1 H2->gk Pt H H2:=λs2=>qK.trans (Kp.of s2)
 have Cz:∀{H2:Hp},Same H1 H2->bU Pt cZ dg H2:=λ{H2} s2=>by
  rcases hT1 with e|⟨c',e⟩
  . exact .inl (s2 _ _ e)
  . exact .inr ⟨c',e.mono λb u _ z=>s2 _ _ z⟩
 refine⟨_,rfl,_,rfl,?_⟩
 dsimp only[gY]
 refine ask key H1 _ (Same.refl _) λb H2 s2 hb=>⟨_,rfl,bN (λcc=>?_) λcc=>?_⟩
 . have hb0:¬gG qs key:=λz=>by
    rw[hb.mpr z] at cc
    cases cc
   exact⟨⟨_,rfl,rfl,_,rfl,rk,trivial⟩,λx=>⟨cJ,q2 (λz=>hb0 (z.2.2 rfl).1) _ (Cy s2) (Cz s2)⟩⟩
 have hkey:gG qs key:=hb.mp (by
  cases b with
  |true=>rfl
  |false=>exact absurd rfl cc)
 have fin:∀H3,Same H1 H3->(by_=""\/gG qs by_)->Fo (pK (Sd (uE RZ (jo 1) (jo 0))) (Uy (λH=>E (Value.ref d9) none H) (iC (λσ H Q=>(jo 1 σ H λv H'=>H'=H/\∃x,v=V.str x/\(reprText x).length<=200/\True)/\∀(x:Str),Q (V.str x) H) gY)) Fl)
  (Rz (wK (iC (tC (V.str "rows")) (iC (jo 0) (iC (jo 1) (iC (jo 3) gY)))))) { nx:=λ_ H'=>Q .non H',rt:=Q } [some (.str key),some (.str by_),some (.ref l),some (.ref t)] H3:=λH3 s3 CG=>by
  refine⟨_,rfl,_,rfl,rfl,_,rfl,bN (λc2=>?_) λc2=>?_⟩
  . have e:by_=key:=by
     have:=of_decide_eq_true c2
     injection this
    exact⟨⟨_,rfl,rfl,_,rfl,rb,trivial⟩,λx=>⟨cJ,q2 (λz=>(z.2.2 rfl).2.2 e) _ (Cy s3) (Cz s3)⟩⟩
  . have ne:by_≠key:=λz=>c2 (decide_eq_true (by rw[z]))
    refine⟨_,rfl,_,rfl,_,rfl,gw,λr hr'=>?_⟩
    have s4:=s3.trans (Same.new (o:=.tup [.str "rows",.str key,.str by_,.ref t]) hr')
    exact q1 ⟨hn,(by intro z;cases z),λ_=>⟨hkey,CG,ne⟩⟩ r t bB _ (Cy s4) (Cz s4) aG (s4 _ _ ht1) hpm hs
 refine⟨_,rfl,rfl,_,rfl,?_⟩
 refine bN (λc3=>?_) λc3=>?_
 . refine⟨_,rfl,_,rfl,?_⟩
   dsimp only[gY]
   refine ask by_ H2 _ s2 λb H3 s3 hb3=>⟨_,rfl,bN (λc4=>?_) λc4=>?_⟩
   . have hb0:¬gG qs by_:=λz=>by
      rw[hb3.mpr z] at c4
      cases c4
     have hne:by_≠"":=λz=>by
      rw[z] at c3
      exact absurd c3 (by decide)
     exact⟨⟨_,rfl,rfl,_,rfl,rb,trivial⟩,λx=>⟨cJ,q2 (λz=>((z.2.2 rfl).2.1).elim hne hb0) _ (Cy s3) (Cz s3)⟩⟩
   . exact fin H3 s3 (.inr (hb3.mp (by
      cases b with
      |true=>rfl
      |false=>exact absurd rfl c4)))
 . refine aZ (fin H2 s2 (.inl ?_))
   have c5:decide (V.str by_=V.str "")=true:=by
    cases e:decide (V.str by_=V.str "") with
    |true=>rfl
    |false=>rw[e] at c3;exact absurd rfl c3
   have:=of_decide_eq_true c5
   injection this
end Pb
namespace L2
open PySem PySem.Spec PyProof.Rows
section
variable {prog:Program}{w:World}{A:Around}{R:Result->Shared->Prop}{s:Shared}
theorem agI {elt target iter:Expr}{ifs:List Expr}{scope:Scope}{pos:Pos}{it acc:Value}{env:Env}(I:Nat->Shared->Prop)
 (turn:∀n s,I n s->wpAny (model prog w) A (pyNext it) (λr s₁=>
   match r with
   |none=>R (.ok .next) s₁
   |some v=>wpAny (model prog w) A (letOwnedTupleGo target it v) (λ_ s₂=>wpAny (model prog w) A (assign target env v) (λ_ s₃=>
     wpAny (model prog w) A (forIn ifs true λc r=>if r=true then do let ok <-isTrue c env (eval c env);pure (ForInStep.yield ok) else pure (ForInStep.yield r)) (λok s₄=>
      if ok=true then wpAny (model prog w) A (eval elt env) (λx s₅=>
       wpAny (model prog w) A (call (.builtin "list.append") [acc,x]) (λ_ s₆=>∃m,m<n/\I m s₆) (λ_ _=>False) s₅) (notedBy (model prog w) A env λe s'=>R (.error e) s') s₄
      else ∃m,m<n/\I m s₄) (λ_ _=>False) s₃) (λ_ _=>False) s₂) (λ_ _=>False) s₁) (λ_ _=>False) s)
 (n:Nat) (h:I n s):
 codeAny (model prog w) A (.compLoop (.ListComp elt [⟨target,iter,ifs,0⟩] scope pos) 0 it acc env) R s:=by
 refine codeAny_loop rfl I (λn s hI=>?_) n h
 show wpAny _ A ((compTurn _ 0 it acc env).onRaise _) _ _ s
 refine wpAny_noted ?_
 rw[compTurn_list]
 have no:∀{α:Type} {t:Sem α} {Q Q':α->Shared->Prop} {E:Value->Shared->Prop} {s:Shared},wpAny (model prog w) A t Q (λ_ _=>False) s->(∀a s,Q a s->Q' a s)->wpAny (model prog w) A t Q' E s:=
  λh k=>wpAny_mono h k λ_ _ z=>z.elim
 refine wpAny_bind (wpAny_standAt (wpAny_bind (no (turn n s hI) λr s₁ h₁=>?_)))
 cases r with
 |none=>exact wpAny_pure h₁
 |some v=>
  refine wpAny_bind (no h₁ λ_ s₂ h₂=>?_)
  refine wpAny_bind (no h₂ λ_ s₃ h₃=>wpAny_bind (no h₃ λok s₄ h₄=>?_))
  cases ok with
  |false=>exact wpAny_pure ⟨rfl,h₄⟩
  |true=>
   refine wpAny_bind (wpAny_bind (wpAny_mono h₄ (λx s₅ h₅=>?_) λ_ _ z=>z))
   exact wpAny_bind (no h₅ λ_ s₆ h₆=>wpAny_pure (wpAny_pure ⟨rfl,h₆⟩))
end
section
variable {X:Cx}{own:List Str}{scope:Scope}
theorem agJ {Ek:XK}{tg iter elt:Expr}{ifs:List Expr}{pos:Pos}{g:TG}{tt:TT}{te:TE}{pins:List (Addr × Obj)}{σ:St}{H2:Hp}{s2:Shared}{it:Addr}{fp:List Addr}{tn:Nat->Heap->Prop}{J:It}{cl:List (Str × Addr)}{Fin:List V->Hp->Prop}{W:Nat->Nat->List V->Hp->Prop}{m0:Nat}
 {RR:Value->Addr->Result->Shared->Prop} (hc:X.calm=true) (S:jr X own scope) (hsub:∀x c,cl.lookup x=some c->X.env.cells.lookup x=some c) (hget:∀x,(x,NameKind.free)∈scope.names->cl.lookup x=X.env.cells.lookup x)
 (I2:Inv X pins σ H2 s2) (T:Turn X.prog X.w X.K tg J fp it tn) (st2:tn 0 s2.heap) (f2:∀b∈fp,fY X pins H2 b) (w0:W 0 m0 [] H2)
 (turn:∀i m ys H,W i m ys H->(J.stop i H/\Fin ys H)\/
   (J.go i H/\ys.length<sizeLine/\∀x H',J.pL i H x H'->g x (List.replicate own.length none++σ) H' λσ2 H2=>σ2.drop own.length=σ/\
     tt σ2 H2 λb H3=>if b=true then te σ2 H3 λy H4=>∃m',m'<m/\W (i+1) m' (ys++[y]) H4 else ∃m',m'<m/\W (i+1) m' ys H3))
 (hg:∀cl C fp s₂ H₂,PG (cX X own scope cl C fp s₂ H₂) tg g) (ht:∀cl C fp s₂ H₂,wV (cX X own scope cl C fp s₂ H₂) ifs tt) (he:∀cl C fp s₂ H₂,rZ (cX X own scope cl C fp s₂ H₂) Ek elt te)
 (hRR:∀(C D:Addr) (s5:Shared) (H5:Hp) (ys:List V) (us:List Value) (k:Nat),s2.heap.objs.size<=C->s2.heap.objs.size<=D->D≠C->Inv (cX X own scope cl C fp s2 H2) [(D,dW us k)] (List.replicate own.length none++σ) H5 s5->Vals ys us->ys.length<=sizeLine->Fin ys H5->RR (.ref D) C (.ok .next) s5)
 (hXX:∀(C D:Addr) (pl:List (Addr × Obj)) (σ':St) (ys:List V) (us:List Value) (k:Nat) (e:Value) (s':Shared),s2.heap.objs.size<=C->s2.heap.objs.size<=D->D≠C->(D,dW us k)∈pl->Vals ys us->ys.length<=sizeLine->xM (cX X own scope cl C fp s2 H2) pl σ' Ek e s'->notedBy (model X.prog X.w) X.A (compEnvC scope cl C X.env) (λe s'=>RR (.ref D) C (.error e) s') e s'):
 wpAny (model X.prog X.w) X.A (newList []) (λacc s₃=>wpAny (model X.prog X.w) X.A (newFunctionEnv scope X.env.globals cl [] X.env.qual none .none (some X.env)) (λcenv s₄=>
  codeAny (model X.prog X.w) X.A (.compStart (.ListComp elt [⟨tg,iter,ifs,0⟩] scope pos) 0 (.ref it) acc { cenv with scope:=relabel scope X.env }) (RR acc cenv.locals) s₄) X.xe s₃) X.xe s2:=by
 have hfl:∀b∈fp,b<s2.heap.objs.size:=λb hb=>by
  obtain⟨o,e,_⟩:=T.obj _ _ st2 b hb
  exact Heap.lt_size e
 refine wpAny_newObj_type (wpAny_newFunctionEnv S.cell (by intro y hy;simp at hy) (λh₁ hns₁ hsb₁=>?_) S.kind)
 dsimp only at hns₁ hsb₁ ⊢
 generalize hG:s2.heap.push { cls:=.type "list",dict:=none,data:=.seq ([]:List Value).toArray }=G at hns₁ hsb₁ ⊢
 have wX:G.objs.size=s2.heap.objs.size+1:=by rw[<-hG,Heap.size_push]
 have hC:s2.heap.objs.size<=G.objs.size:=by rw[wX];exact Nat.le_succ _
 have hDC:s2.heap.objs.size≠G.objs.size:=by rw[wX];exact Nat.ne_of_lt (Nat.lt_succ_self _)
 have old:∀b o,s2.heap.get? b=some o->h₁.get? b=some o:=λb o e=>
  hsb₁.extBut b o (Nat.ne_of_lt (Nat.lt_of_lt_of_le (Heap.lt_size e) hC)) (Heap.get?_push_of_some _ (hG ▸ Heap.get?_push_of_some _ e))
 have hacc:h₁.get? s2.heap.objs.size=some (dW [] 0):=hsb₁.extBut _ _ hDC (Heap.get?_push_of_some _ (hG ▸ Heap.get?_push_size _ rfl))
 have I3:=I2.block (cl:=cl) (t':=s2.toks+([]:List (Str × Value)).length) S f2 hfl hsub hget hC (Nat.le_refl _) hDC hns₁ old hacc
 have st3:tn 0 h₁:=T.keep _ _ _ st2 λb _ o e=>old b o e
 have uy:∀b∈fp,H2 b=none:=λb hb=>(f2 b hb).1
 have stat:∀{H':Hp} {us:List Value} {n:Nat},(∀b∈fp,H' b=none)->∀b∈fp,fY (cX X own scope cl G.objs.size fp s2 H2) [(s2.heap.objs.size,dW us n)] H' b:=λ{H' us n} hn b hb=>by
  refine⟨hn b hb,Nat.ne_of_lt (Nat.lt_of_lt_of_le (hfl b hb) hC),λz=>?_,.inl hb,λx c e=>(f2 b hb).2.2.2.2.1 x c (hsub x c e),λp hp=>?_⟩
  . rcases List.mem_cons.mp (I2.pG b z) with q|q
    . exact(f2 b hb).2.1 q
    . exact(f2 b hb).2.2.1 q
  . have hp:p∈([]++[(s2.heap.objs.size,dW us n)]:List (Addr × Obj)):=hp
    have e:p=(s2.heap.objs.size,dW us n):=by simpa using hp
    subst e
    exact Nat.ne_of_gt (hfl b hb)
 have loop:∀s₃:Shared,s₃={ s2 with heap:=h₁,toks:=s2.toks+([]:List (Str × Value)).length }->
  codeAny (model X.prog X.w) X.A (.compLoop (.ListComp elt [⟨tg,iter,ifs,0⟩] scope pos) 0 (.ref it) (.ref s2.heap.objs.size) (compEnvC scope cl G.objs.size X.env))
   (RR (.ref s2.heap.objs.size) G.objs.size) s₃:=by
  rintro s₃ rfl
  refine agI (λn s'=>∃i ys us k H',Inv (cX X own scope cl G.objs.size fp s2 H2) [(s2.heap.objs.size,dW us k)] (List.replicate own.length none++σ) H' s'/\Vals ys us/\ys.length<=sizeLine/\tn i s'.heap/\(∀b∈fp,H' b=none)/\W i n ys H')
   ?_ m0 ⟨0,[],[],0,H2,I3,.nil,Nat.zero_le _,st3,uy,w0⟩
  rintro n s4 ⟨i,ys,us,k,H4,I4,r4,z4,wY,pW,w4⟩
  rcases turn i n ys H4 w4 with⟨stop,qn⟩|⟨go,hlt,step⟩
  . refine aP (T.done (cX X own scope cl G.objs.size fp s2 H2) rfl rfl rfl hc i _ s4 _ H4 (λ_ _=>False) I4 (stat pW) wY stop) λr s5 ⟨hr,I5⟩=>?_
    subst hr
    exact hRR G.objs.size s2.heap.objs.size s5 H4 ys us k hC (Nat.le_refl _) hDC I5 r4 z4 qn
  . refine aP (T.item (cX X own scope cl G.objs.size fp s2 H2) rfl rfl rfl hc i _ s4 _ H4 (λ_ _=>False) I4 (stat pW) wY go) λr s5 ⟨u,hr,h5⟩=>?_
    subst hr
    refine aP h5 λ_ s6 ⟨x,H6,I6,r6,y6,lX,Gm⟩=>?_
    have Gn:=I6.pinned (stat Gm) (T.obj _ _ lX)
    refine aP (hg cl G.objs.size fp s2 H2 _ s6 _ H6 x u _ Gn r6 (step x H6 y6)) λ_ s7 ⟨σ7,H7,I7,d7,q7⟩=>?_
    refine aP (ht cl G.objs.size fp s2 H2 _ s7 σ7 H7 _ I7 q7) λb s8 ⟨H8,I8,q8⟩=>?_
    have hlen:(List.replicate own.length none++σ).length=σ7.length:=by rw[I7.len,<-I6.len]
    have back:∀(j:Nat) v,(List.replicate own.length none++σ)[j]? =some (some v)->σ7[j]? =some (some v):=λj v e=>by
     obtain⟨hk,e'⟩:=Gj e
     rw[<-d7,List.getElem?_drop] at e'
     rw[<-e']
     congr 1
     omega
    cases b with
    |false=>
     have q8:∃m',m'<n/\W (i+1) m' ys H8:=q8
     obtain⟨m',hm,w8⟩:=q8
     refine⟨m',hm,i+1,ys,us,k,H8,I8.pO.weak hlen back,r4,z4,T.keep _ _ _ lX λb hb o e=>?_,λb hb=>?_,w8⟩
     . exact(I8.pin (b,o) (List.mem_append_right _ (List.mem_append_right _ (pN hb e)))).1
     . obtain⟨o,e,d⟩:=T.obj _ _ lX b hb
       exact(I8.pin (b,o) (List.mem_append_right _ (List.mem_append_right _ (pN hb e)))).2.1
    |true=>
     have q8:te σ7 H8 λy H9=>∃m',m'<n/\W (i+1) m' (ys++[y]) H9:=q8
     show wpAny _ _ _ _ _ _
     refine wpAny_mono (he cl G.objs.size fp s2 H2 _ s8 σ7 H8 _ I8 q8) (λyv s9 ⟨y,H9,I9,r9,m',hm,w9⟩=>?_) λe s' hx=>hXX G.objs.size s2.heap.objs.size _ σ7 ys us k e s' hC (Nat.le_refl _) hDC (List.mem_append_left _ List.mem_cons_self) r4 z4 hx
     obtain⟨eD,nD,ne1,ne2,_⟩:=I9.pin (s2.heap.objs.size,dW us k) (List.mem_append_right _ (List.mem_append_left _ List.mem_cons_self))
     have hl:=r4.length
     refine append_at (hsz:=by rw[List.size_toArray,<-hl];exact z4) eD λh10 wZ Gp=>?_
     have hpin:∀b∈fp,∀o,s6.heap.get? b=some o->s9.heap.get? b=some o/\H9 b=none:=λb hb o e=>by
      have q:=I9.pin (b,o) (List.mem_append_right _ (List.mem_append_right _ (pN hb e)))
      exact⟨q.1,q.2.1⟩
     have Gq:∀b∈fp,b≠s2.heap.objs.size:=λb hb=>Nat.ne_of_lt (hfl b hb)
     have Gr:Inv (cX X own scope cl G.objs.size fp s2 H2) [] σ7 H9 s9:=I9.pH λp hp=>(nomatch hp)
     have Gs:Inv (cX X own scope cl G.objs.size fp s2 H2) [] σ7 H9 { s9 with heap:=h10 }:=
      Gr.turned (t':=s9.toks) (λb o hb e=>wZ.extBut b o hb e) nD ne1 (.inr (Nat.le_refl _)) (λx c e z=>by
       obtain⟨v,q⟩:=I2.cell x c (hsub x c e)
       exact absurd q.lt (by rw[z];exact Nat.lt_irrefl _)) λp hp=>(nomatch hp)
     have Gu:Inv (cX X own scope cl G.objs.size fp s2 H2) [(s2.heap.objs.size,dW (us++[yv]) (k+1))] σ7 H9 { s9 with heap:=h10 }:=Gs.pH λp hp=>by
      have e:p=(s2.heap.objs.size,dW (us++[yv]) (k+1)):=by simpa using hp
      subst e
      refine⟨?_,nD,ne1,ne2,λv z=>by
       have z:Data.seq (us++[yv]).toArray (k+1)=Data.cell v:=z
       cases z⟩
      show h10.get? _=some { cls:=.type "list",data:=.seq (us++[yv]).toArray (k+1) }
      rw[<-List.push_toArray]
      exact Gp
     refine⟨m',hm,i+1,ys++[y],us++[yv],k+1,H9,Gu.weak hlen back,r4.append (.cons r9 .nil),by rw[List.length_append,List.length_singleton];exact hlt,T.keep _ _ _ lX λb hb o e=>wZ.extBut b o (Gq b hb) (hpin b hb o e).1,λb hb=>?_,w9⟩
     obtain⟨o,e,d⟩:=T.obj _ _ lX b hb
     exact(hpin b hb o e).2
 exact codeAny_compStart_list (loop _ rfl) (T.self _ 0 _ _ _ st3 (loop _ rfl))
end
section
variable {M:Model}{A:Around}{E:Value->Shared->Prop}{s:Shared}
theorem agL {fr:Option Addr}{e T:Addr}{cls fl:Value}{dd:Option Addr}{Q:Unit->Shared->Prop}(t:fj s.heap e T cls dd fl)(h:∀h',fj h' e T cls dd (fr.elim Value.none λf=>rawInt f)->(∀b o,b≠T->s.heap.get? b=some o->h'.get? b=some o)->(∃o',h'.get? T=some o')->Q () { s with heap:=h' }):wpAny M A (setFlight (.ref e) fr) Q E s:=by
 obtain⟨⟨oe,vs,he,hc,hdi,hd,h1⟩,⟨oT,ts,hT,hdT,h3⟩,ne⟩:=t
 have em:Obj.mapFields (·.setIfInBounds 3 (fr.elim Value.none λf=>rawInt f)) oT={ oT with data:=.fields (ts.setIfInBounds 3 (fr.elim Value.none λf=>rawInt f)) }:=pY hdT
 have hsz:=(Array.getElem?_eq_some_iff.mp h3).1
 unfold setFlight
 refine wpAny_bind (wpAny_field he hd h1 ?_)
 rw[if_pos (show(Value.ref T != Value.none)=true by simp)]
 have self:=Heap.get?_update_self (Obj.mapFields (·.setIfInBounds 3 (fr.elim Value.none λf=>rawInt f))) hT (by rw[em];exact Obj.isFreed_of_fields rfl)
 rw[em] at self
 have oth:∀b o,b≠T->s.heap.get? b=some o->(s.heap.update T (Obj.mapFields (·.setIfInBounds 3 (fr.elim Value.none λf=>rawInt f)))).get? b=some o:=λb o hb ho=>by
  rw[Heap.get?_update_other _ _ (Ne.symm hb)];exact ho
 exact wpAny_setField hT hdT hsz (h _ ⟨⟨oe,vs,oth e oe (Ne.symm ne) he,hc,hdi,hd,h1⟩,⟨_,_,self,rfl,by simp[hsz]⟩,ne⟩ oth ⟨_,self⟩)
theorem agM {base:Heap}{env:Env}{outer:List Env}{L e T:Addr}{cls:Value}{dd:Option Addr}{Q:Unit->Shared->Prop}(hfr:A.frames=some (env::outer))(hl:s.heap.FunFrames base (env::outer))(hf:env.frame=some L)(t:fj s.heap e T cls dd .none)
 (h:∀(h':Heap) (T':Addr),s.heap.objs.size<=T'->(∀b o,b ∉ frs (env::outer)->b≠e->s.heap.get? b=some o->h'.get? b=some o)->(∀b o,b≠e->s.heap.get? b=some o->∃sl,h'.get? b=some { o with slots:=sl })->fj h' e T' cls dd (rawInt L)->Q () { s with heap:=h' }):
 wpAny M A (noteFrame (.ref e) env) Q E s:=by
 obtain⟨⟨oe,vs,he,hc,hdi,hd,h1⟩,⟨oT,ts,hT,hdT,h3⟩,ne⟩:=t
 have hsz:=(Array.getElem?_eq_some_iff.mp h3).1
 have em:Obj.mapFields (·.setIfInBounds 3 Value.none) oT={ oT with data:=.fields (ts.setIfInBounds 3 .none) }:=pY hdT
 unfold noteFrame
 simp only[hf]
 refine wpAny_bind (wpAny_field he hd h1 ?_)
 rw[if_pos (show(Value.ref T != Value.none)=true by simp)]
 refine wpAny_bind (wpAny_field hT hdT h3 ?_)
 rw[if_neg (show ¬(Value.none == rawInt L)=true by simp[rawInt])]
 refine wpAny_bind (wpAny_setField hT hdT hsz ?_)
 have self:=Heap.get?_update_self (Obj.mapFields (·.setIfInBounds 3 Value.none)) hT (by rw[em];exact Obj.isFreed_of_fields rfl)
 rw[em] at self
 have oth:∀b o,b≠T->s.heap.get? b=some o->(s.heap.update T (Obj.mapFields (·.setIfInBounds 3 Value.none))).get? b=some o:=λb o hb ho=>by
  rw[Heap.get?_update_other _ _ (Ne.symm hb)];exact ho
 have same:ts.setIfInBounds 3 Value.none=ts:=by
  refine Array.ext_getElem? λi=>?_
  rw[Array.getElem?_setIfInBounds]
  split
  . rename_i e;subst e
    first|rw[h3]|rw[if_pos hsz,h3]
  . rfl
 rw[same] at self
 have all:∀b o,s.heap.get? b=some o->(s.heap.update T (Obj.mapFields (·.setIfInBounds 3 Value.none))).get? b=some o:=λb o ho=>by
  by_cases hb:b=T
  . subst hb
    rw[hT] at ho
    cases ho
    rw[self,<-hdT]
  . exact oth b o hb ho
 have nT:∀b o,s.heap.get? b=some o->(∀vs,o.data≠ .fields vs)->b≠T:=λb o ho hn z=>by
  rw[z,hT] at ho
  cases ho
  exact hn ts hdT
 have hsize:(s.heap.update T (Obj.mapFields (·.setIfInBounds 3 Value.none))).objs.size=s.heap.objs.size:=Heap.size_update _ _ _
 refine uO (s:={ s with heap:=s.heap.update T (Obj.mapFields (·.setIfInBounds 3 Value.none)) }) hfr (hl.of_keeps λb o ho hn=>⟨o,oth b o (nT b o ho hn) ho,rfl⟩) hf (oth e oe (Ne.symm ne) he) hd (Array.getElem?_eq_some_iff.mp h1).1 λh' T' hT' hP he' htb=>?_
 have hle:s.heap.objs.size<=T':=by rw[<-hsize];exact hT'
 refine h h' T' hle (λb o hb hbe ho=>hP.1 b o hb hbe (all b o ho)) (λb o hbe ho=>hP.2 b o hbe (all b o ho)) ⟨⟨_,_,he',hc,hdi,rfl,by simp[(Array.getElem?_eq_some_iff.mp h1).1]⟩,htb,?_⟩
 have h1:e<s.heap.objs.size:=Heap.lt_size he
 exact λz=>Nat.lt_irrefl e (Nat.lt_of_lt_of_le h1 (by rw[<-z];exact hle))
theorem agN {base:Heap}{env:Env}{outer:List Env}{L e T:Addr}{cls:Value}{dd:Option Addr}{fl:Value}{Q:Unit->Shared->Prop}(hfr:A.frames=some (env::outer))(hl:s.heap.FunFrames base (env::outer))(hf:env.frame=some L)(t:fj s.heap e T cls dd fl)(hq:fj s.heap e T cls dd (rawInt L)->Q () s)
 (h:∀(h':Heap) (T':Addr),s.heap.objs.size<=T'->(∀b o,b ∉ frs (env::outer)->b≠e->b≠T->s.heap.get? b=some o->h'.get? b=some o)->(∀b o,b≠e->b≠T->s.heap.get? b=some o->∃sl,h'.get? b=some { o with slots:=sl })->(∃o,h'.get? T=some o)->fj h' e T' cls dd (rawInt L)->Q () { s with heap:=h' }):
 wpAny M A (noteFrame (.ref e) env) Q E s:=by
 obtain⟨⟨oe,vs,he,hc,hdi,hd,h1⟩,⟨oT,ts,hT,hdT,h3⟩,ne⟩:=t
 have hsz:=(Array.getElem?_eq_some_iff.mp h3).1
 have em:Obj.mapFields (·.setIfInBounds 3 Value.none) oT={ oT with data:=.fields (ts.setIfInBounds 3 .none) }:=pY hdT
 unfold noteFrame
 simp only[hf]
 refine wpAny_bind (wpAny_field he hd h1 ?_)
 rw[if_pos (show(Value.ref T != Value.none)=true by simp)]
 refine wpAny_bind (wpAny_field hT hdT h3 ?_)
 by_cases hfl:(fl == rawInt L)=true
 . rw[if_pos hfl]
   exact wpAny_pure (hq ⟨⟨oe,vs,he,hc,hdi,hd,h1⟩,⟨oT,ts,hT,hdT,by rw[h3,eq_of_beq hfl]⟩,ne⟩)
 rw[if_neg hfl]
 refine wpAny_bind (wpAny_setField hT hdT hsz ?_)
 have self:=Heap.get?_update_self (Obj.mapFields (·.setIfInBounds 3 Value.none)) hT (by rw[em];exact Obj.isFreed_of_fields rfl)
 rw[em] at self
 have oth:∀b o,b≠T->s.heap.get? b=some o->(s.heap.update T (Obj.mapFields (·.setIfInBounds 3 Value.none))).get? b=some o:=λb o hb ho=>by
  rw[Heap.get?_update_other _ _ (Ne.symm hb)];exact ho
 have nT:∀b o,s.heap.get? b=some o->(∀vs,o.data≠ .fields vs)->b≠T:=λb o ho hn z=>by
  rw[z,hT] at ho
  cases ho
  exact hn ts hdT
 have hsize:(s.heap.update T (Obj.mapFields (·.setIfInBounds 3 Value.none))).objs.size=s.heap.objs.size:=Heap.size_update _ _ _
 refine uO (s:={ s with heap:=s.heap.update T (Obj.mapFields (·.setIfInBounds 3 Value.none)) }) hfr (hl.of_keeps λb o ho hn=>⟨o,oth b o (nT b o ho hn) ho,rfl⟩) hf (oth e oe (Ne.symm ne) he) hd (Array.getElem?_eq_some_iff.mp h1).1 λh' T' hT' hP he' htb=>?_
 have hle:s.heap.objs.size<=T':=by rw[<-hsize];exact hT'
 refine h h' T' hle (λb o hb hbe hbT ho=>hP.1 b o hb hbe (oth b o hbT ho)) (λb o hbe hbT ho=>hP.2 b o hbe (oth b o hbT ho)) ?_ ⟨⟨_,_,he',hc,hdi,rfl,by simp[(Array.getElem?_eq_some_iff.mp h1).1]⟩,htb,?_⟩
 . obtain⟨sl,hs⟩:=hP.2 T _ ne self
   exact⟨_,hs⟩
 . have h1:e<s.heap.objs.size:=Heap.lt_size he
   exact λz=>Nat.lt_irrefl e (Nat.lt_of_lt_of_le h1 (by rw[<-z];exact hle))
end
theorem Xm {h h' base:Heap}:∀{l:List Env},(∀b∈frs l,∀o,h.get? b=some o->(∀vs,o.data≠ .fields vs)->∃o',h'.get? b=some o'/\o'.data=o.data)->h.FunFrames base l->h'.FunFrames base l
 |[],_,_=>by unfold Heap.FunFrames;trivial
 |env::l,k,x=>by
  unfold Heap.FunFrames at x ⊢
  obtain⟨h1,⟨L,o,e1,e2,e3,e4⟩,r⟩:=x
  obtain⟨o',f1,f2⟩:=k L (List.mem_filterMap.mpr ⟨env,List.mem_cons_self,e1⟩) o e3 e4
  refine⟨h1,⟨L,o',e1,e2,f1,λvs z=>e4 vs (by rw[<-f2];exact z)⟩,Xm (λb hb=>k b ?_) r⟩
  obtain⟨en,m1,m2⟩:=List.mem_filterMap.mp hb
  exact List.mem_filterMap.mpr ⟨en,List.mem_cons_of_mem _ m1,m2⟩
theorem agO {e:Value}{cenv env:Env}(h:cenv.frame=env.frame):noteFrame e cenv=noteFrame e env:=by
 unfold noteFrame PySem.frameOf
 simp only[h]
section
variable {X:Cx}{pins:List (Addr × Obj)}{σ:St}{H:Hp}{s:Shared}
theorem Inv.agP (I:Inv X pins σ H s)(hex:X.ex=[])(hst:X.stack=X.env::X.outer)(hfm:X.env.frame=some X.env.locals){a T C:Addr}{cls:Value}{dd:Option Addr}{m:Str->Option Value}{cenv:Env}{acc:Value}{Q0:Value->Shared->Prop}{E2:Value->Shared->Prop}{QX:Value->Shared->Prop}{M:Model}(t:fj s.heap a T cls dd .none)
 (ha:X.s₀.heap.get? a=none) (na:H a=none) (hC:X.s₀.heap.get? C=none) (nC:H C=none) (fC:C ∉ frs X.stack) (ns:s.heap.Ns C m) (hce:cenv.frame=X.env.frame)
 (q:∀(h':Heap) (T':Addr),fj h' a T' cls dd .none->X.s₀.heap.get? T'=none->H T'=none->Un (frs X.outer) [] X.H₀ H X.s₀.heap h'->cQ X.prog X.w H h'->QX (.ref a) { s with heap:=h' }):
 notedBy M X.A cenv (λe s'=>compPost M X.A (λe s'=>wpAny M X.A (leaving X.env e) (λ_ s''=>QX e s'') E2 s') none Q0 acc C (.error e) s') (.ref a) s:=by
 have hfr:X.A.frames=some (X.env::X.outer):=by rw[<-hst];exact I.ok.frames
 have hl:s.heap.FunFrames X.base (X.env::X.outer):=by rw[<-hst];exact I.stack
 obtain⟨oC,esC,epC,eC,dC,rC⟩:=id ns
 have Xn:C≠a:=λz=>by
  obtain⟨oe,vs,he,_,_,hd,_⟩:=t.ex
  rw[z,he] at eC
  cases eC
  rw[hd] at dC;cases dC
 have Xo:C ∉ frs (X.env::X.outer):=by rw[<-hst];exact fC
 unfold notedBy
 rw[agO hce]
 refine agM hfr hl hfm t λh1 T1 hT1 k1 k2 t1=>?_
 have dX:∀b o,s.heap.get? b=some o->b≠T1:=λb o e z=>by
  have h3:=Heap.lt_size e
  rw[z] at h3
  exact Nat.lt_irrefl _ (Nat.lt_of_lt_of_le h3 hT1)
 refine⟨m,⟨oC,esC,epC,k1 C _ Xo Xn eC,dC,rC⟩,λh2 hs2 agS _=>?_⟩
 have agT:T1≠C:=Ne.symm (dX C _ eC)
 have t2:fj h2 a T1 cls dd (rawInt X.env.locals):=by
  obtain⟨⟨oe,vs,he,hc,hdi,hd,hh⟩,⟨oT,ts,hT,hdT,h3⟩,ne⟩:=t1
  exact⟨⟨oe,vs,(hs2.2 a (Ne.symm Xn)).trans he,hc,hdi,hd,hh⟩,⟨oT,ts,(hs2.2 T1 agT).trans hT,hdT,h3⟩,ne⟩
 unfold PySem.passOn
 obtain⟨oe,vs,he,_,_,hd,hh⟩:=t2.ex
 refine wpAny_bind (wpAny_field he hd hh ?_)
 rw[if_neg (show ¬(Value.ref T1 == Value.none)=true by simp)]
 refine wpAny_bind (agL (s:={ s with heap:=h2 }) (fr:=agS.frame) t2 λh3 t3 k3 yO=>?_)
 refine wpAny_throw ?_
 have hl3:h3.FunFrames X.base (X.env::X.outer):=by
  refine Xm (λb hb o ho hn=>?_) hl
  have hba:b≠a:=λz=>by
   obtain⟨oe,vs,he,_,_,hd,_⟩:=t.ex
   rw[z,he] at ho
   cases ho
   exact hn vs hd
  have hbC:b≠C:=λz=>Xo (z ▸ hb)
  obtain⟨sl,e1⟩:=k2 b o hba ho
  exact⟨_,k3 b _ (dX b o ho) ((hs2.2 b hbC).trans e1),rfl⟩
 have keep:∀b o,b ∉ frs X.stack->b≠a->b≠C->s.heap.get? b=some o->h3.get? b=some o:=λb o hb h1' h2' e=>
  k3 b o (dX b o e) ((hs2.2 b h2').trans (k1 b o (by rw[<-hst];exact hb) h1' e))
 have slot:∀b o,b≠a->b≠C->s.heap.get? b=some o->∃sl,h3.get? b=some { o with slots:=sl }:=λb o h1' h2' e=>by
  obtain⟨sl,e1⟩:=k2 b o h1' e
  exact⟨sl,k3 b _ (dX b o e) ((hs2.2 b h2').trans e1)⟩
 have oK:H T1=none:=I.hok.fresh hT1
 have hsz2:h2.objs.size=h1.objs.size:=hs2.1
 show wpAny M X.A (leaving X.env (.ref a)) _ _ { s with heap:=h3 }
 unfold leaving
 refine wpAny_bind (agN (s:={ s with heap:=h3 }) hfr hl3 hfm t3 (λt4=>?_) λh4 T4 qL k4 k5 hTT t4=>?_)
 . refine uR (s:={ s with heap:=h3 }) t4 λh5 t5 k6 hT5=>?_
   obtain⟨u,ok⟩:=I.uP hex (h':=h5) ha hC na nC (λb o hb h1' h2' e=>k6 b o (dX b o e) (keep b o hb h1' h2' e)) (λb o h1' h2' e=>by
    obtain⟨sl,e1⟩:=slot b o h1' h2' e
    exact⟨sl,k6 b _ (dX b o e) e1⟩)
   exact q h5 T1 t5 (I.iG hex (Heap.rT hT1)) oK u ok
 . refine uR (s:={ s with heap:=h4 }) t4 λh5 t5 k6 hT5=>?_
   have Iw:s.heap.objs.size<=T4:=by
    obtain⟨o',e'⟩:=yO
    exact Nat.le_trans hT1 (Nat.le_trans (Nat.le_of_lt (Heap.lt_size e')) qL)
   have Xp:∀b o,s.heap.get? b=some o->b≠T4:=λb o e z=>by
    have h3:=Heap.lt_size e
    rw[z] at h3
    exact Nat.lt_irrefl _ (Nat.lt_of_lt_of_le h3 Iw)
   obtain⟨u,ok⟩:=I.uP hex (h':=h5) ha hC na nC (λb o hb h1' h2' e=>k6 b o (Xp b o e) (k4 b o (by rw[<-hst];exact hb) h1' (dX b o e) (keep b o hb h1' h2' e))) (λb o h1' h2' e=>by
    obtain⟨sl,e1⟩:=slot b o h1' h2' e
    obtain⟨sl2,e2⟩:=k5 b _ h1' (dX b o e) e1
    exact⟨sl2,k6 b _ (Xp b o e) e2⟩)
   exact q h5 T4 t5 (I.iG hex (Heap.rT Iw)) (I.hok.fresh Iw) u ok
end
theorem agU {P:Program}{w:World}{K:PySem.W.Frag}{mg:Str->Option Value}{base:Heap}{N:List Str}{qual:Str}{qM:Scope}{f:Addr}{cd:Value}{A:Around}{outer:List Env}{s₀:Shared}{H₀:Hp}{E Ek:XK}{own:List Str}{scope:Scope}
 {tg iter elt:Expr} {ifs:List Expr} {pos:Pos} {wi:TI} {g:TG} {tt:TT} {te:TE} (yP:∀C d H p ys,Ek C d H->H p=none->E C d (upd H p (.lst ys)))
 (S:jr (fZ (bK P w) P w K mg base N qual qM f cd A outer s₀ H₀ E) own scope) (hi:PI (fZ (bK P w) P w K mg base N qual qM f cd A outer s₀ H₀ E) tg iter wi)
 (hg:∀cl C fp s₂ H₂,PG (cX (fZ (bK P w) P w K mg base N qual qM f cd A outer s₀ H₀ E) own scope cl C fp s₂ H₂) tg g) (ht:∀cl C fp s₂ H₂,wV (cX (fZ (bK P w) P w K mg base N qual qM f cd A outer s₀ H₀ E) own scope cl C fp s₂ H₂) ifs tt)
 (he:∀cl C fp s₂ H₂,rZ (cX (fZ (bK P w) P w K mg base N qual qM f cd A outer s₀ H₀ E) own scope cl C fp s₂ H₂) Ek elt te) (hs:∀x,foldedSetIterable iter (fZ (bK P w) P w K mg base N qual qM f cd A outer s₀ H₀ E).env x=pure x:=by intro _;rfl):
 PE (fZ (bK P w) P w K mg base N qual qM f cd A outer s₀ H₀ E) (.ListComp elt [⟨tg,iter,ifs,0⟩] scope pos) (T5 own.length wi g tt te):=by
 intro pins s σ H Q I h
 obtain⟨cl,hclos,hsub,hget⟩:=Gi (S.cells I)
 rw[eval_ListComp]
 refine wpAny_comprehension_free (use:=none) rfl hs hclos S.kind S.names ?_
 refine aP (hi pins s σ H _ I h) λv s1 h1=>aP h1 λitv s2 h2=>?_
 obtain⟨it,fp,tn,J,H2,xg,I2,T,st2,f2,W,⟨m0,w0⟩,turn⟩:=h2
 subst xg
 refine agJ (RR:=λacc C=>compPost (model P w) _ _ none (EP _ pins σ Q) acc C) rfl S hsub hget I2 T st2 f2 w0 turn hg ht he ?_ ?_
 . intro C D s5 H5 ys us k hC hD hDC I5 r5 z5 fin
   obtain⟨m5,n5,_⟩:=id I5.loc
   refine⟨m5,n5,λh' hs'=>?_⟩
   obtain⟨I6,nD⟩:=I2.unblock f2 I5 List.mem_cons_self hC hD hDC r5 z5 hs'
   exact⟨.ref D,_,I6,rfl,fin _ nD⟩
 . intro C D pl σ' ys us k e s' hC hD hDC hmem r5 z5 hx
   obtain⟨H9,s9,I9,a,T9,C0,dd,H',rfl,t,la,lT,na,nT,os,bare,un,hok,hE'⟩:=hx
   obtain⟨hh,g',d',tk,os'⟩:=s'
   obtain rfl:os'=s9.os:=os
   have I':=I9.call (h':=hh) (g':=g') (d':=d') (t':=tk) (ch:=[]) un hok bare (λb z=>absurd z (by simp))
   obtain⟨Xq,_⟩:=I2.unblock f2 I9 hmem hC hD hDC r5 z5 (Heap.SameBut.refl C s9.heap)
   obtain⟨IX,nD⟩:=I2.unblock f2 I' hmem hC hD hDC r5 z5 (Heap.SameBut.refl C hh)
   obtain⟨m5,n5,_⟩:=id I'.loc
   have pD:=(I9.pin (D,dW us k) (List.mem_append_right _ hmem)).1
   have haD:a≠D:=λz=>by rw[z] at la;rw[la] at pD;cases pD
   have hCl:C≠(fZ (bK P w) P w K mg base N qual qM f cd A outer s₀ H₀ E).env.locals:=Nat.ne_of_gt (Nat.lt_of_lt_of_le I2.lt hC)
   refine IX.agP rfl rfl rfl t (Xq.iG rfl la) (by rw[aq haD];exact na) (Heap.rT (Nat.le_trans I2.sz hC)) (by rw[aq (Ne.symm hDC)];exact I'.free) (λz=>?_) n5 rfl λh4 T4 t4 lT4 nT4 un4 agZ=>?_
   . rcases List.mem_cons.mp (I2.pG C z) with z|z
     . exact hCl z
     . exact I2.uq hC z
   . exact⟨a,T4,C0,dd,_,rfl,t4,Xq.iG rfl la,lT4,by rw[aq haD];exact na,nT4,IX.os,bare,un4,agZ,yP _ _ _ _ _ hE' nD⟩
end L2
namespace Pb
open PySem L2 PyProof.Rows
noncomputable def Fs.toL:Fs->List (Str × Kd)
 | .nil=>[]
 | .cons x k r=>(x,k)::r.toL
mutual
noncomputable def Kd.fw:Kd->Prop
 | .num=>True
 | .bQ=>True
 | .bW fs=>fs.names.length<=13/\fs.fw
 | .rows _ _ fs=>fs.names.length<=13/\fs.fw
 | .tree k=>k.fw
 | .bV fs=>fs.names.length<=13/\fs.fw
noncomputable def Fs.fw:Fs->Prop
 | .nil=>True
 | .cons _ k r=>k.fw/\r.fw
end
theorem Fs.Xr:∀{fs:Fs},fs.fw->∀e∈fs.toL,e.2.fw
 | .nil,_,e,he=>nomatch he
 | .cons x k r,h,e,he=>by
   unfold Fs.fw at h
   rcases List.mem_cons.mp he with z|z
   . rw[z];exact h.1
   . exact Fs.Xr h.2 e z
theorem Fs.Iz:∀{fs:Fs},fs.N->∀e∈fs.toL,bZ (sl e.1)/\e.2.N
 | .nil,_,e,he=>nomatch he
 | .cons x k r,h,e,he=>by
   unfold Fs.N at h
   rcases List.mem_cons.mp he with z|z
   . rw[z];exact⟨h.1,h.2.1⟩
   . exact Fs.Iz h.2.2 e z
theorem Fs.Xu:∀{fs:Fs},∀e∈fs.toL,e.2.tk.length<=fs.cD.length
 | .nil,e,he=>nomatch he
 | .cons x k r,e,he=>by
   show _<=(mkT 44::aK (sl x)::mkT 58::(k.tk++r.cD)).length
   simp only[List.length_cons,List.length_append]
   rcases List.mem_cons.mp he with z|z
   . rw[z];show k.tk.length<=_;omega
   . have:=Fs.Xu e z
     omega
theorem Fs.ag0 {fs:Fs}:∀e∈fs.toL,e.2.tk.length<=fs.tk.length:=by
 cases fs with
 |nil=>exact λe he=>nomatch he
 |cons x k r=>
  intro e he
  show _<=(aK (sl x)::mkT 58::(k.tk++r.cD)).length
  simp only[List.length_cons,List.length_append]
  rcases List.mem_cons.mp he with z|z
  . rw[z];show k.tk.length<=_;omega
  . have:=Fs.Xu e z
    omega
noncomputable abbrev eY:=Str × Kd × Kd
noncomputable def kE (R:Kd->Kd->Prop) (fs gs:Fs):Prop:=∃l:List eY,fs.toL.Perm (l.map λe=>(e.1,e.2.1))/\gs.toL=l.map (λe=>(e.1,e.2.2))/\∀e∈l,R e.2.1 e.2.2
noncomputable def Mx:Nat->Kd->Kd->Prop
 |0,_,_=>False
 |n+1,k,t=>match k,t with
  | .num,.num=>True
  | .bQ,.bQ=>True
  | .bW fs,.bW gs=>kE (Mx n) fs gs
  | .rows key b fs,.rows key' b' gs=>key=key'/\b=b'/\kE (Mx n) fs gs
  | .tree k,.tree t=>Mx n k t
  | .bV fs,.bV gs=>kE (Mx n) fs gs
  |_,_=>False
mutual
noncomputable def Kd.S:Kd->Prop
 | .num=>True
 | .bQ=>True
 | .bW fs=>fs.names.Pairwise sle/\fs.names.Nodup/\fs.names.length<=13/\fs.S
 | .rows key b fs=>fs.names.Pairwise sle/\fs.names.Nodup/\fs.names.length<=13/\fs.pl key/\(b=""\/fs.pl b)/\b≠key/\fs.S
 | .tree k=>k.S
 | .bV fs=>fs.names.Pairwise sle/\fs.names.Nodup/\fs.names.length<=13/\fs.names≠[]/\fs.S
noncomputable def Fs.S:Fs->Prop
 | .nil=>True
 | .cons _ k r=>k.S/\r.S
end
theorem TF.at_ {F:Addr->Prop}{H:Hp}:∀{gs:Fs}{us:List V}{i:Nat}{v:V},TF F H gs us->us[i]? =some v->∃a x u t,v=.ref a/\H a=some (.tup [.str x,u])/\TA F H t u/\gs.toL[i]? =some (x,t)
 | .nil,us,i,v,h,e=>by
   have h:us=[]:=h
   subst h
   cases e
 | .cons x k r,us,i,v,⟨a,u,us',e1,h1,h2,h3⟩,e=>by
   subst e1
   cases i with
   |zero=>cases e;exact⟨a,x,u,k,rfl,h1,h2,rfl⟩
   |succ i=>exact TF.at_ (gs:=r) h3 e
theorem TF.lD {F:Addr->Prop}{H:Hp}:∀{gs:Fs}{us:List V},TF F H gs us->us.length=gs.toL.length
 | .nil,us,h=>by have h:us=[]:=h;subst h;rfl
 | .cons y j fs,us,⟨b,z,us',e,h1,h2,h3⟩=>by subst e;show us'.length+1=_;rw[TF.lD h3];rfl
noncomputable def MP (H:Hp) (ws:List V) (tri:List eY):Prop:=ws.length=tri.length/\∀(i:Nat) e,tri[i]? =some e->∃c u,ws[i]? =some (.ref c)/\H c=some (.tup [.str e.1,u])/\KA H u e.2.1
theorem MP.mono {H H':Hp}(t:Tu H H'){ws:List V}{tri:List eY}(h:MP H ws tri):MP H' ws tri:=⟨h.1,λi e he=>by
 obtain⟨c,u,h1,h2,h3⟩:=h.2 i e he
 exact⟨c,u,h1,t _ _ h2,KA.mono t _ h3⟩⟩
theorem MP.snoc {H:Hp}{ws:List V}{tri:List eY}{e:eY}{c:Addr}{u:V}(h:MP H ws tri)(hc:H c=some (.tup [.str e.1,u]))(hk:KA H u e.2.1):MP H (ws++[.ref c]) (tri++[e]):=by
 refine⟨by rw[List.length_append,List.length_append,h.1];rfl,λi e' he=>?_⟩
 rcases Nat.lt_or_ge i tri.length with hi|hi
 . rw[List.getElem?_append_left hi] at he
   obtain⟨c',u',a1,a2,a3⟩:=h.2 i e' he
   exact⟨c',u',by rw[List.getElem?_append_left (by rw[h.1];exact hi)];exact a1,a2,a3⟩
 . have hi2:i=tri.length:=by
    have:=(List.getElem?_eq_some_iff.mp he).1
    simp at this;omega
   subst hi2
   rw[List.getElem?_append_right (Nat.le_refl _),Nat.sub_self] at he
   cases he
   exact⟨c,u,by rw[<-h.1,List.getElem?_append_right (Nat.le_refl _),Nat.sub_self];rfl,hc,hk⟩
noncomputable def oZ (n:Nat) (tri:List eY):Prop:=∀e∈tri,Mx n e.2.1 e.2.2/\e.2.1.S
noncomputable def qN (B:Kd->Prop) (n:Nat) (gs:Fs):Prop:=∃(tri:List eY) (x:Str) (t:Kd) (post:List (Str × Kd)),gs.toL=tri.map (λe=>(e.1,e.2.2))++(x,t)::post/\oZ n tri/\B t
noncomputable def mU (n:Nat) (gs:Fs):Prop:=∃tri:List eY,gs.toL=tri.map (λe=>(e.1,e.2.2))/\oZ n tri
noncomputable def vD (gs:Fs) (x:Str):Prop:=∃t,(x,t)∈gs.toL/\i_ t
noncomputable def dj:Nat->Kd->Prop
 |0,_=>False
 |n+1,t=>match t with
  | .num=>False
  | .bQ=>False
  | .tree t=>dj n t
  | .bW gs=>qN (dj n) n gs\/(mU n gs/\¬gs.names.Nodup)
  | .bV gs=>qN (dj n) n gs\/(mU n gs/\(¬gs.names.Nodup\/gs.names=[]))
  | .rows key b gs=>qN (dj n) n gs\/(mU n gs/\(¬gs.names.Nodup\/¬vD gs key\/(b≠""/\¬vD gs b)\/b=key))
noncomputable def yQ (cK Pt:Addr) (H:Hp) (E:XK):Prop:=∀H',gk Pt H H'->bU Pt cZ dg H'->E (.ref cK) none H'
noncomputable def yR (n:Nat) (Pt cK:Addr):Sp:=λvs H Q E=>∃F v t,vs=[v]/\TA F H t v/\t.N/\t.tk.length<=1000/\bU Pt cZ dg H/\((∃k,Mx n k t/\k.S/\∀u H',gk Pt H H'->bU Pt cZ dg H'->KA H' u k->Q u H')\/(dj n t/\t.fw/\yQ cK Pt H E))
noncomputable def IK (n:Nat) (Pt cK:Addr):Sp:=λvs H Q E=>∃F l us gs,vs=[.ref l]/\H l=some (.lst us)/\TF F H gs us/\gs.N/\gs.tk.length<=1000/\gs.toL.length<=13/\bU Pt cZ dg H/\
 ((∃tri:List eY,gs.toL=tri.map (λe=>(e.1,e.2.2))/\oZ n tri/\∀l' ws H',gk Pt H H'->bU Pt cZ dg H'->H' l'=some (.lst ws)->MP H' ws tri->Q (.ref l') H')\/(qN (dj n) n gs/\gs.fw/\yQ cK Pt H E))
theorem gk.ls {Pt:Addr}{H H':Hp}{lp:Pos}{ql:Str}(x:gk Pt H H')(hT:bU Pt lp ql H){c:Addr}{xs:List V}(h:H c=some (.lst xs)):H' c=some (.lst xs):=by
 obtain⟨ps,hP⟩:=hT.tab
 exact x c _ (fW h hP (by intro z;cases z)) h
variable {P:Program}{w:World}{K:W.Frag}{mg:Str->Option Value}{base:Heap}
theorem Xv:bR ["pairs"] ["pairs"] (aN (top 32)):=cA
theorem ag1 {Pt cK:Addr}(n kf:Nat)(T:Tb mg)(iy:Dn K mg "made_pairs" ["pairs"] (top 32) CJ CK)(gH:Dn K mg "made_kind" ["told"] (top 31) qO qP)(yS:aB P w K mg base (bK P w) kf qO qP ["told"] (yR n Pt cK)):aB P w K mg base (bK P w) (kf+1) CJ CK ["pairs"] (IK n Pt cK):=by
 refine mC iy.F Xv (λvs H Q E h=>?_) (λcdv A outer s H vs Q E hr h=>?_)
 . obtain⟨F,l,us,gs,rfl,_⟩:=h
   rfl
 obtain⟨F,l,us,gs,rfl,hl,iu,hN,jD,h13,hT,hor⟩:=h
 have nd:=Xv.nd
 have hlen:us.length=gs.toL.length:=iu.lD
 generalize Xw:(λC d H'=>∀p ys,H' p=none->E C d (upd H' p (.lst ys)):XK)=Ek
 have yP:∀C d H p ys,Ek C d H->H p=none->E C d (upd H p (.lst ys)):=λC d H p ys h hp=>by rw[<-Xw] at h;exact h p ys hp
 refine⟨_,(aH (aW (agU (Ek:=Ek) (g:=(RM K 2 (Fq (gA 0) (Fq (gA 1) RL)))) (tt:=Ar) (te:=(wK (iC (jo 0) (iC (wM _ _ _ (iC (jo 1) gY)) gY)))) (own:=["name","told"]) yP (jr.of (N:=["pairs"]) (sc:=aN (top 32)) rfl rfl rfl (by decide +kernel)) (RQ (pv 0)) (λ_ _ _ _ _=>(rK rfl (fX (dw (i:=0) (show(["name","told","pairs"]:List Str).Nodup by decide +kernel) rfl (Or.inl rfl) (.inr rfl)) (fX (dw (i:=1) (show(["name","told","pairs"]:List Str).Nodup by decide +kernel) rfl (Or.inl rfl) (.inr rfl)) ni)))) (λ_ _ _ _ _=>T3) (λ_ _ _ _ _=>(U8 (Bt (U6 (pv 0)) (Bt (U3 yS (hr.mono (by omega)) rfl gH.m gH.F.kp gH.b .nil (aj (pv 1) ak)) U7))))))),?_⟩
 obtain⟨tri,post,hgs,hok,hend,hbad⟩:∃(tri:List eY) (post:List (Str × Kd)),gs.toL=tri.map (λe=>(e.1,e.2.2))++post/\oZ n tri/\(post=[]->∀l' ws H',gk Pt H H'->bU Pt cZ dg H'->H' l'=some (.lst ws)->MP H' ws tri->Q (.ref l') H')/\(∀e r,post=e::r->dj n e.2/\e.2.fw/\yQ cK Pt H E):=by
  rcases hor with⟨tri,h1,h2,h3⟩|⟨⟨tri,x,t,post,h1,h2,h3⟩,h4,h5⟩
  . exact⟨tri,[],by rw[List.append_nil];exact h1,h2,λ_=>h3,λe r z=>nomatch z⟩
  . refine⟨tri,(x,t)::post,h1,h2,(λz=>nomatch z),λe r z=>?_⟩
    injection z with z1 z2
    subst z1
    exact⟨h3,Fs.Xr h4 (x,t) (by rw[h1];exact List.mem_append_right _ List.mem_cons_self),h5⟩
 have htl:tri.length<=us.length:=by rw[hlen,hgs,List.length_append,List.length_map];omega
 refine⟨_,rfl,l,rfl,⟨_,aL.of hl⟩,λi m zs H'=>m=us.length - i/\i<=tri.length/\gk Pt H H'/\bU Pt cZ dg H'/\MP H' zs (tri.take i),⟨us.length,rfl,Nat.zero_le _,(λ_ _ _ e=>e),hT,rfl,λi e he=>by cases he⟩,?_⟩
 rintro i m zs H' ⟨rfl,hi0,kp,hT',qQ⟩
 have hl':=kp.ls hT hl
 have tu:=kp.tu hT
 by_cases hi:i<us.length
 . refine .inr ⟨⟨_,_,aL.of hl',List.getElem?_eq_getElem hi⟩,by rw[qQ.1,List.length_take];exact Nat.lt_of_le_of_lt (show _<=100 by omega) (by decide),λv H1 y=>?_⟩
   obtain⟨rfl,y⟩:=y
   have hv:=y _ (aL.of hl')
   obtain⟨a,x,u,t,rfl,ha,hu,hx⟩:=TF.at_ iu hv
   have Xx:=List.mem_of_getElem? hx
   have Av:=Fs.Iz hN _ Xx
   have Xy:=Nat.le_trans (Fs.ag0 _ Xx) jD
   refine⟨a,_,rfl,aM.of (tu _ _ ha),rfl,_,_,rfl,_,_,rfl,rfl,rfl,L2.yes (bT ?_)⟩
   by_cases hit:i<tri.length
   . rw[hgs,List.getElem?_append_left (by rw[List.length_map];exact hit),List.getElem?_map] at hx
     obtain⟨e,he,hxe⟩:=Option.map_eq_some_iff.mp hx
     obtain⟨x',k,t'⟩:=e
     injection hxe with e1 e2
     have e1:x'=x:=e1
     have e2:t'=t:=e2
     subst e1 e2
     have hm:=hok _ (List.mem_of_getElem? he)
     refine⟨_,rfl,_,rfl,F,u,t',rfl,hu.mv tu (λl' us' _ e=>kp.ls hT e) (λ_ h=>h),Av.2,Xy,hT',.inl ⟨k,hm.1,hm.2,λu2 H3 Xz yO hk=>⟨bC,λc hc=>?_⟩⟩⟩
     have s4:Same H3 (upd H3 c (.tup [.str x',u2])):=Same.new hc
     refine⟨us.length - (i+1),by omega,rfl,hit,(kp.trans Xz).trans (Kp.of s4),yO.same s4,?_⟩
     have et:tri.take (i+1)=tri.take i++[(x',k,t')]:=by rw[List.take_add_one,he];rfl
     rw[et]
     exact((qQ.mono (Xz.tu hT')).mono (Tu.of s4)).snoc (e:=(x',k,t')) aG (KA.mono (Tu.of s4) k hk)
   . have xg:i=tri.length:=by omega
     rw[hgs,List.getElem?_append_right (by rw[List.length_map];omega),List.length_map,xg,Nat.sub_self] at hx
     obtain⟨e0,r0,hpost⟩:∃e r,post=e::r:=by
      cases post with
      |nil=>cases hx
      |cons e r=>exact⟨e,r,rfl⟩
     rw[hpost] at hx
     injection hx with hx
     subst hx
     obtain⟨b1,b2,b3⟩:=hbad _ _ hpost
     refine⟨_,rfl,_,rfl,F,u,t,rfl,hu.mv tu (λl' us' _ e=>kp.ls hT e) (λ_ h=>h),Av.2,Xy,hT',.inr ⟨b1,b2,λH9 kp9 hT9=>?_⟩⟩
     rw[<-Xw]
     intro p ys hp
     exact b3 _ ((kp.trans kp9).trans (Kp.of (Same.new hp))) (hT9.same (Same.new hp))
 . have ei:i=us.length:=by omega
   have hpost:post=[]:=by
    have:post.length=0:=by
     have:=congrArg List.length hgs
     rw[List.length_append,List.length_map] at this
     omega
    exact List.length_eq_zero_iff.mp this
   refine .inl ⟨⟨_,aL.of hl',by omega⟩,λp hp=>?_⟩
   rw[List.take_of_length_le (by omega)] at qQ
   have s4:Same H' (upd H' p (.lst zs)):=Same.new hp
   exact hend hpost p zs _ (kp.trans (Kp.of s4)) (hT'.same s4) aG (qQ.mono (Tu.of s4))
noncomputable def nO:Kd->Bool
 | .num=>true
 | .bQ=>true
 |_=>false
theorem jP.at_ {H:Hp}{u:V}:∀{k:Kd},KA H u k->jP H u (nO k)
 | .num,h=>by
   unfold KA at h
   obtain⟨a,e,q⟩:=h
   exact⟨a,_,_,e,q,λ_=>⟨rfl,.inl rfl⟩,(λz=>by cases z),λv hv=>nomatch hv⟩
 | .bQ,h=>by
   unfold KA at h
   obtain⟨a,e,q⟩:=h
   exact⟨a,_,_,e,q,λ_=>⟨rfl,.inr rfl⟩,(λz=>by cases z),λv hv=>nomatch hv⟩
 | .bW fs,h=>by
   unfold KA at h
   obtain⟨a,b,vs,e,q,_⟩:=h
   exact⟨a,_,_,e,q,(λz=>by cases z),(λ_=>by decide),λv hv=>by rw[List.mem_singleton.mp hv];exact .inr ⟨_,rfl⟩⟩
 | .rows key by_ fs,h=>by
   unfold KA at h
   obtain⟨a,b,vs,e,q,_⟩:=h
   refine⟨a,_,_,e,q,(λz=>by cases z),(λ_=>by decide),λv hv=>?_⟩
   simp only[List.mem_cons,List.mem_nil_iff,or_false] at hv
   rcases hv with z|z|z <;> subst z
   . exact .inl ⟨_,rfl⟩
   . exact .inl ⟨_,rfl⟩
   . exact .inr ⟨_,rfl⟩
 | .tree k,h=>by
   unfold KA at h
   obtain⟨a,b,e,q,hk⟩:=h
   obtain⟨_,c,_,_,ec,_⟩:=jP.of hk
   exact⟨a,_,_,e,q,(λz=>by cases z),(λ_=>by decide),λv hv=>by rw[List.mem_singleton.mp hv];exact .inr ⟨c,ec⟩⟩
 | .bV fs,h=>by
   unfold KA at h
   obtain⟨a,b,vs,e,q,_⟩:=h
   exact⟨a,_,_,e,q,(λz=>by cases z),(λ_=>by decide),λv hv=>by rw[List.mem_singleton.mp hv];exact .inr ⟨_,rfl⟩⟩
theorem ag4 {α β:Type}(g:α->β){m l:List β}(h:m.Perm l):∀{zs:List α},zs.map g=m->∃zs':List α,zs'.Perm zs/\zs'.map g=l:=by
 induction h with
 |nil=>intro zs e;exact⟨zs,List.Perm.refl _,e⟩
 |cons x p ih=>
  intro zs e
  cases zs with
  |nil=>cases e
  |cons z zs=>
   injection e with e1 e2
   obtain⟨zs',h1,h2⟩:=ih e2
   exact⟨z::zs',List.Perm.cons z h1,by rw[List.map_cons,h2,e1]⟩
 |swap x y l=>
  intro zs e
  match zs,e with
  |a::b::zs,e=>
   injection e with e1 e2
   injection e2 with e2 e3
   exact⟨b::a::zs,List.Perm.swap a b zs,by rw[List.map_cons,List.map_cons,e1,e2,e3]⟩
 |trans p q ih1 ih2=>
  intro zs e
  obtain⟨z1,h1,h2⟩:=ih1 e
  obtain⟨z2,h3,h4⟩:=ih2 h2
  exact⟨z2,h3.trans h1,h4⟩
theorem Fs.o7:∀(fs:Fs),fs.names=fs.toL.map (·.1)
 | .nil=>rfl
 | .cons x k r=>by show x::r.names=x::r.toL.map (·.1);rw[Fs.o7 r]
noncomputable abbrev Zd:=V × Str × Kd
noncomputable def tK (H:Hp) (z:Zd):Prop:=∃c u,z.1=.ref c/\H c=some (.tup [.str z.2.1,u])/\KA H u z.2.2
noncomputable def zq (z:Zd):Qd:=(z.1,z.2.1,nO z.2.2)
theorem FA.XD {H:Hp}:∀{fs:Fs}{zs:List Zd},zs.map (λz=>(z.2.1,z.2.2))=fs.toL->(∀z∈zs,tK H z)->FA H (cG (zs.map zq)) fs
 | .nil,zs,e,_=>by
   have:zs=[]:=List.map_eq_nil_iff.mp e
   subst this
   exact rfl
 | .cons x k r,zs,e,h=>by
   cases zs with
   |nil=>cases e
   |cons z zs=>
    injection e with e1 e2
    obtain⟨v,y,j⟩:=z
    injection e1 with e1 e3
    have e1:y=x:=e1
    have e3:j=k:=e3
    subst e1 e3
    obtain⟨c,u,h1,h2,h3⟩:=h _ List.mem_cons_self
    have h1:v=.ref c:=h1
    subst h1
    exact⟨c,u,cG (zs.map zq),rfl,h2,h3,FA.XD e2 λz hz=>h z (List.mem_cons_of_mem _ hz)⟩
theorem MP.rows {H:Hp}{ws:List V}{tri:List eY}{fs:Fs}(h:MP H ws tri)(hp:fs.toL.Perm (tri.map λe=>(e.1,e.2.1))):
 ∃qs rs,cG qs=ws/\mO H qs/\rs.Perm qs/\nms rs=fs.names/\FA H (cG rs) fs/\qs.length=fs.toL.length/\∀x k,(x,k)∈fs.toL->nO k=true->gG rs x:=by
 let zs:List Zd:=(ws.zip tri).map λz=>(z.1,z.2.1,z.2.2.1)
 have ez:zs.map (λz=>(z.2.1,z.2.2))=tri.map λe=>(e.1,e.2.1):=by
  show((ws.zip tri).map _).map _=_
  rw[List.map_map]
  have:(ws.zip tri).map Prod.snd=tri:=List.map_snd_zip (by rw[h.1];exact Nat.le_refl _)
  conv=>rhs;rw[<-this,List.map_map]
  rfl
 have hz:∀z∈zs,tK H z:=by
  intro z hz
  obtain⟨⟨v,e⟩,hm,rfl⟩:=List.mem_map.mp hz
  obtain⟨i,hi⟩:=List.mem_iff_getElem?.mp hm
  rw[List.getElem?_zip_eq_some] at hi
  obtain⟨c,u,a1,a2,a3⟩:=h.2 i e hi.2
  rw[hi.1] at a1
  injection a1 with a1
  exact⟨c,u,a1,a2,a3⟩
 obtain⟨zs',p1,p2⟩:=ag4 (λz:Zd=>(z.2.1,z.2.2)) hp.symm ez
 have hz':∀z∈zs',tK H z:=λz hz0=>hz z (p1.mem_iff.mp hz0)
 refine⟨zs.map zq,zs'.map zq,?_,?_,p1.map _,?_,FA.XD p2 hz',?_,?_⟩
 . show(zs.map zq).map (·.1)=ws
   show((((ws.zip tri).map _)).map zq).map (·.1)=ws
   rw[List.map_map,List.map_map]
   exact List.map_fst_zip (by rw[h.1];exact Nat.le_refl _)
 . intro q hq
   obtain⟨z,hm,rfl⟩:=List.mem_map.mp hq
   obtain⟨c,u,a1,a2,a3⟩:=hz z hm
   exact⟨c,u,a1,a2,jP.at_ a3⟩
 . rw[Fs.o7,<-p2]
   show(zs'.map zq).map (·.2.1)=_
   rw[List.map_map,List.map_map]
   rfl
 . have a:(zs.map zq).length=zs.length:=List.length_map _
   have b:(zs.map (λz:Zd=>(z.2.1,z.2.2))).length=zs.length:=List.length_map _
   rw[hp.length_eq,<-ez,a,b]
 . intro x k hm hk
   rw[<-p2] at hm
   obtain⟨z,hm2,e⟩:=List.mem_map.mp hm
   injection e with e1 e2
   exact⟨zq z,List.mem_map.mpr ⟨z,hm2,rfl⟩,e1,by show nO z.2.2=true;rw[e2];exact hk⟩
theorem Fs.XF:∀{fs:Fs}{x:Str}{k:Kd},fs.S->(x,k)∈fs.toL->k.S
 | .nil,_,_,_,h=>by cases h
 | .cons y j r,x,k,hs,h=>by
   rcases List.mem_cons.mp h with e|h
   . injection e with e1 e2;subst e2;exact hs.1
   . exact Fs.XF hs.2 h
theorem Fs.XH:∀{fs:Fs}{x:Str}{k:Kd},fs.get x=some k->(x,k)∈fs.toL
 | .nil,_,_,h=>by cases h
 | .cons y j r,x,k,h=>by
   unfold Fs.get at h
   by_cases e:x=y
   . rw[if_pos e] at h;cases h;subst e;exact List.mem_cons_self
   . rw[if_neg e] at h;exact List.mem_cons_of_mem _ (Fs.XH h)
theorem ag5:∀{k:Kd},i_ k->nO k=true
 | .num,_=>rfl
 | .bQ,_=>rfl
theorem MP.qs {H:Hp}{ws:List V}{tri:List eY}(h:MP H ws tri):∃qs,cG qs=ws/\mO H qs/\nms qs=tri.map (·.1)/\qs.length=tri.length/\∀x,gG qs x->∃e∈tri,e.1=x/\nO e.2.1=true:=by
 have hl:ws.length=tri.length:=h.1
 refine⟨(ws.zip tri).map λz=>(z.1,z.2.1,nO z.2.2.1),?_,?_,?_,?_,?_⟩
 . unfold cG
   rw[List.map_map]
   exact List.map_fst_zip (by omega)
 . intro q hq
   obtain⟨⟨v,e⟩,hm,rfl⟩:=List.mem_map.mp hq
   obtain⟨i,hi⟩:=List.mem_iff_getElem?.mp hm
   rw[List.getElem?_zip_eq_some] at hi
   obtain⟨c,u,a1,a2,a3⟩:=h.2 i e hi.2
   rw[hi.1] at a1
   injection a1 with a1
   exact⟨c,u,a1,a2,jP.at_ a3⟩
 . unfold nms
   rw[List.map_map]
   have:(ws.zip tri).map Prod.snd=tri:=List.map_snd_zip (by omega)
   conv=>rhs;rw[<-this,List.map_map]
   rfl
 . rw[List.length_map,List.length_zip];omega
 . rintro x ⟨q,hq,e1,e2⟩
   obtain⟨⟨v,e⟩,hm,rfl⟩:=List.mem_map.mp hq
   exact⟨e,(List.of_mem_zip hm).2,e1,e2⟩
theorem Mx.nO:∀{n:Nat}{k t:Kd},Mx n k t->nO k=true->i_ t
 |0,_,_,h,_=>False.elim h
 |n+1,.num,.num,_,_=>trivial
 |n+1,.bQ,.bQ,_,_=>trivial
 |n+1,.num,.bQ,h,_=>False.elim h
 |n+1,.num,.bW _,h,_=>False.elim h
 |n+1,.num,.rows _ _ _,h,_=>False.elim h
 |n+1,.num,.tree _,h,_=>False.elim h
 |n+1,.num,.bV _,h,_=>False.elim h
 |n+1,.bQ,.num,h,_=>False.elim h
 |n+1,.bQ,.bW _,h,_=>False.elim h
 |n+1,.bQ,.rows _ _ _,h,_=>False.elim h
 |n+1,.bQ,.tree _,h,_=>False.elim h
 |n+1,.bQ,.bV _,h,_=>False.elim h
theorem bZ.yU {x:Str}(h:bZ (sl x)):vC x:=by
 refine⟨?_,λc hc=>?_⟩
 . have:x.length=(sl x).length:=Array.length_toList.symm
   rw[this];exact h.2.1
 . have:=h.2.2 c hc
   unfold fu at this
   simp only[Bool.and_eq_true,decide_eq_true_eq] at this
   omega
theorem nQ:vC "":=⟨by decide,λc hc=>by
 have:("":Str).cps.toList=[]:=by decide +kernel
 rw[this] at hc;cases hc⟩
noncomputable def ag6 (wh:Nat) (key b:Str) (gs:Fs):Prop:=¬gs.names.Nodup\/(wh=1/\gs.names=[])\/(wh=2/\(¬vD gs key\/(b≠""/\¬vD gs b)\/b=key))
theorem vG {Pt cK:Addr}{n:Nat}{F:Addr->Prop}{H:Hp}{E:XK}(wh:Nat)(key b:Str)(gs:Fs){l:Addr}{us:List V}{Qm Qp:VK}(hl:H l=some (.lst us))(iu:TF F H gs us)(hN:gs.N)(jD:gs.tk.length<=1000)(h13:gs.names.length<=13)(hT:bU Pt cZ dg H)(sk:vC key)(sb:vC b)
 (hor:(∃(fs:Fs) (tri:List eY),fs.toL.Perm (tri.map λe=>(e.1,e.2.1))/\gs.toL=tri.map (λe=>(e.1,e.2.2))/\oZ n tri/\fs.names.Pairwise sle/\fs.names.Nodup/\(wh=1->fs.names≠[])/\(wh=2->fs.pl key/\(b=""\/fs.pl b)/\b≠key)/\
   ∀r t xs H',gk Pt H H'->bU Pt cZ dg H'->H' r=some (.tup (Xf wh key b t))->H' t=some (.tup xs)->FA H' xs fs->Qm (.ref r) H')\/
   ((qN (dj n) n gs\/(mU n gs/\ag6 wh key b gs))/\gs.fw/\yQ cK Pt H E))
 (hQ:∀l' qs H1,Mk K Pt cK wh key b l' qs H1 Qm E->Qp (.ref l') H1):IK n Pt cK [.ref l] H Qp E:=by
 have IV:gs.toL.length<=13:=by rw[Fs.o7,List.length_map] at h13;exact h13
 have few:∀x:Str,x∈gs.names->x.length<=12:=λx hx=>by
  rw[Fs.o7] at hx
  obtain⟨e,he,rfl⟩:=List.mem_map.mp hx
  exact(bZ.yU (Fs.Iz hN e he).1).1
 rcases hor with⟨fs,tri,p1,p2,p3,hso,hnd,h1,h2,fin⟩|⟨hb|⟨⟨tri,p2,p3⟩,hv⟩,hfw,fe⟩
 . refine⟨F,l,us,gs,rfl,hl,iu,hN,jD,IV,hT,.inl ⟨tri,p2,p3,λl' ws H1 qK hT1 hl1 qQ=>?_⟩⟩
   obtain⟨qs,rs,e1,e2,e3,e4,e5,e6,e7⟩:=qQ.rows p1
   have pl:∀{x:Str},fs.pl x->gG qs x:=λ⟨k,g1,g2⟩=>(gG.perm e3).mp (e7 _ k (Fs.XH g1) (ag5 g2))
   have ndq:(nms qs).Nodup:=(e3.map (λq:Qd=>q.2.1)).nodup_iff.mp (by show(nms rs).Nodup;rw[e4];exact hnd)
   have nmq:∀x∈nms qs,x∈gs.names:=λx hx=>by
    have hx2:x∈nms rs:=(e3.map (λq:Qd=>q.2.1)).mem_iff.mpr hx
    rw[e4,Fs.o7] at hx2
    obtain⟨e,he,rfl⟩:=List.mem_map.mp hx2
    obtain⟨tr,ht,e9⟩:=List.mem_map.mp (p1.mem_iff.mp he)
    rw[Fs.o7,p2,List.map_map]
    exact List.mem_map.mpr ⟨tr,ht,by rw[<-e9];rfl⟩
   have okm:Cw wh key b qs:=⟨ndq,λz zz=>h1 z (by rw[<-e4];subst zz;rw[e3.eq_nil];rfl),λz=>⟨pl (h2 z).1,(h2 z).2.1.imp id pl,(h2 z).2.2⟩⟩
   refine hQ l' qs H1 ⟨aL.of (by rw[e1];exact hl1),e2,?_,λx hx=>few x (nmq x hx),hT1,sk,sb,λ_ r t bB H' nR hT' hr ht hpm hs=>?_,λhn=>absurd okm hn⟩
   . have:=p1.length_eq
     rw[List.length_map] at this
     have h9:=congrArg List.length p2
     rw[List.length_map] at h9
     omega
   . have eq:bB=rs:=agu (hpm.trans e3.symm) hs (by rw[e4];exact hso) (by rw[e4];exact hnd)
     subst eq
     exact fin r t _ H' (qK.trans nR) hT' hr ht (FA.mono (nR.tu hT1) fs e5)
 . exact⟨F,l,us,gs,rfl,hl,iu,hN,jD,IV,hT,.inr ⟨hb,hfw,fe⟩⟩
 . refine⟨F,l,us,gs,rfl,hl,iu,hN,jD,IV,hT,.inl ⟨tri,p2,p3,λl' ws H1 qK hT1 hl1 qQ=>?_⟩⟩
   obtain⟨qs,e1,e2,e3,e4,e5⟩:=qQ.qs
   have IW:nms qs=gs.names:=by rw[e3,Fs.o7,p2,List.map_map];rfl
   have nok:¬Cw wh key b qs:=λ⟨k1,k2,k3⟩=>by
    have pl:∀{x:Str},gG qs x->vD gs x:=λ{x} hx=>by
     obtain⟨e,he,ex,ep⟩:=e5 x hx
     exact⟨e.2.2,by rw[p2,<-ex];exact List.mem_map.mpr ⟨e,he,rfl⟩,(p3 e he).1.nO ep⟩
    rcases hv with hv|⟨hw,hv⟩|⟨hw,hv⟩
    . exact hv (by rw[<-IW];exact k1)
    . refine k2 hw ?_
      have:(nms qs).length=0:=by rw[IW,hv];rfl
      rw[qH] at this
      exact List.length_eq_zero_iff.mp this
    . obtain⟨g1,g2,g3⟩:=k3 hw
      rcases hv with hv|⟨hb,hv⟩|hv
      . exact hv (pl g1)
      . exact hv (pl (g2.resolve_left hb))
      . exact g3 hv
   refine hQ l' qs H1 ⟨aL.of (by rw[e1];exact hl1),e2,?_,λx hx=>few x (by rw[<-IW];exact hx),hT1,sk,sb,λhok=>absurd hok nok,λ_ H' nR hT'=>fe H' (qK.trans nR) hT'⟩
   have h9:=congrArg List.length p2
   rw[List.length_map] at h9
   omega
theorem XJ:bR ["told","form"] ["told"] (aN (top 31)):=cA
theorem ahb {Pt cK:Addr}(n:Nat)(T:Tb mg)(gH:Dn K mg "made_kind" ["told"] (top 31) qO qP)(yS:aB P w K mg base (bK P w) (2 * n+10) qO qP ["told"] (yR n Pt cK))(iy:Dn K mg "made_pairs" ["pairs"] (top 32) CJ CK)(I_:aB P w K mg base (bK P w) (2 * n+10+1) CJ CK ["pairs"] (IK n Pt cK))(lA:Dn K mg "record_of" ["pairs"] (top 9) yG yH)(yV:aB P w K mg base (bK P w) 9 yG yH ["pairs"] (Ir K Pt cK))(lC:Dn K mg "rows_of" ["key","by","pairs"] (top 11) yL yM)(yW:aB P w K mg base (bK P w) 9 yL yM ["key","by","pairs"] (Iv K Pt cK))(lB:Dn K mg "either_of" ["pairs"] (top 10) yJ yK)(yX:aB P w K mg base (bK P w) 9 yJ yK ["pairs"] (Iu K Pt cK)):aB P w K mg base (bK P w) ((2 * n+10+1)+1) qO qP ["told"] (yR (n+1) Pt cK):=by
 refine mC gH.F XJ (λvs H Q E h=>?_) (λcdv A outer s H vs Q E hr h=>?_)
 . obtain⟨F,v,t,rfl,_⟩:=h
   rfl
 obtain⟨F,v,t,rfl,jk,hN,jD,hT,hor⟩:=h
 have nd:=XJ.nd
 refine⟨_,(aC (aQ (i:=1) nd rfl (Or.inl rfl) (aU bY (pv 0) au (λ_ _=>rfl)))
  (aC (bF (bh cj (pv 1) aD (bw _)) (aH (aW (aV yV (hr.mono (by omega)) rfl lA.m lA.F.kp lA.b .nil (dY λ_ _ _ z=>z) (aj (aV I_ (hr.mono (by omega)) rfl iy.m iy.F.kp iy.b .nil (dY λ_ _ _ z=>z) (aj (aU bY (pv 0) au (λ_ _=>rfl)) ak)) ak)))) bG)
  (aC (bF (bh cj (pv 1) aD (bw _)) (aH (aW (aV yW (hr.mono (by omega)) rfl lC.m lC.F.kp lC.b .nil (dY λ_ _ _ z=>z) (aj (aU bY (pv 0) au (λ_ _=>rfl)) (aj (aU bY (pv 0) au (λ_ _=>rfl)) (aj (aV I_ (hr.mono (by omega)) rfl iy.m iy.F.kp iy.b .nil (dY λ_ _ _ z=>z) (aj (aU bY (pv 0) au (λ_ _=>rfl)) ak)) ak)))))) bG)
  (aC (bF (bh cj (pv 1) aD (bw _)) (aH (aW (bH (aj aD (aj (aV yS (hr.mono (by omega)) rfl gH.m gH.F.kp gH.b .nil (dY λ_ _ _ z=>z) (aj (aU bY (pv 0) au (λ_ _=>rfl)) ak)) ak))))) bG)
  (aC (bF (bh cj (pv 1) aD (bw _)) (aH (aW (aV yX (hr.mono (by omega)) rfl lB.m lB.F.kp lB.b .nil (dY λ_ _ _ z=>z) (aj (aV I_ (hr.mono (by omega)) rfl iy.m iy.F.kp iy.b .nil (dY λ_ _ _ z=>z) (aj (aU bY (pv 0) au (λ_ _=>rfl)) ak)) ak)))) bG)
  (aH (aW (pv 0)))))))),?_⟩
 have nn:∀{s t:Str},s≠t->decide (V.str s=V.str t)=false:=λh=>decide_eq_false λe=>by injection e with e;exact h e
 have yy:∀{s:Str},decide (V.str s=V.str s)=true:=decide_eq_true rfl
 have prep:∀{fs:Fs} {tri:List eY},fs.S->fs.toL.Perm (tri.map λe=>(e.1,e.2.1))->(∀e∈tri,Mx n e.2.1 e.2.2)->oZ n tri:=λ{fs tri} hs hp hm e he=>⟨hm e he,Fs.XF hs (x:=e.1) (hp.mem_iff.mpr (List.mem_map.mpr ⟨e,he,rfl⟩))⟩
 have n13:∀{fs gs:Fs} {tri:List eY},fs.names.length<=13->fs.toL.Perm (tri.map λe=>(e.1,e.2.1))->gs.toL=tri.map (λe=>(e.1,e.2.2))->gs.names.length<=13:=λ{fs gs tri} h13 hp hg=>by
  rw[Fs.o7,List.length_map] at h13 ⊢
  have h1:=hp.length_eq
  have h2:=congrArg List.length hg
  rw[List.length_map] at h1 h2
  omega
 cases t with
 |num=>
  unfold TA at jk
  obtain⟨a,rfl,ha⟩:=jk
  rcases hor with⟨k,hmx,hS,q⟩|⟨hb,_⟩
  . refine⟨_,rfl,a,_,_,_,rfl,rfl,aM.of ha,rfl,?_⟩
    refine⟨_,rfl,rfl,_,rfl,?_⟩
    rw[nn (by decide +kernel)]
    refine aZ ?_
    refine⟨_,rfl,rfl,_,rfl,?_⟩
    rw[nn (by decide +kernel)]
    refine aZ ?_
    refine⟨_,rfl,rfl,_,rfl,?_⟩
    rw[nn (by decide +kernel)]
    refine aZ ?_
    refine⟨_,rfl,rfl,_,rfl,?_⟩
    rw[nn (by decide +kernel)]
    refine aZ ?_
    cases k with
    |num=>exact⟨_,rfl,q _ H (λ_ _ _ e=>e) hT (by unfold KA;exact⟨a,rfl,ha⟩)⟩
    |_=>exact False.elim hmx
  . exact False.elim hb
 |bQ=>
  unfold TA at jk
  obtain⟨a,rfl,ha⟩:=jk
  rcases hor with⟨k,hmx,hS,q⟩|⟨hb,_⟩
  . refine⟨_,rfl,a,_,_,_,rfl,rfl,aM.of ha,rfl,?_⟩
    refine⟨_,rfl,rfl,_,rfl,?_⟩
    rw[nn (by decide +kernel)]
    refine aZ ?_
    refine⟨_,rfl,rfl,_,rfl,?_⟩
    rw[nn (by decide +kernel)]
    refine aZ ?_
    refine⟨_,rfl,rfl,_,rfl,?_⟩
    rw[nn (by decide +kernel)]
    refine aZ ?_
    refine⟨_,rfl,rfl,_,rfl,?_⟩
    rw[nn (by decide +kernel)]
    refine aZ ?_
    cases k with
    |bQ=>exact⟨_,rfl,q _ H (λ_ _ _ e=>e) hT (by unfold KA;exact⟨a,rfl,ha⟩)⟩
    |_=>exact False.elim hmx
  . exact False.elim hb
 |tree t=>
  unfold TA at jk
  obtain⟨a,u,rfl,ha,hu⟩:=jk
  refine⟨_,rfl,a,_,_,_,rfl,rfl,aM.of ha,rfl,?_⟩
  refine⟨_,rfl,rfl,_,rfl,?_⟩
  rw[nn (by decide +kernel)]
  refine aZ ?_
  refine⟨_,rfl,rfl,_,rfl,?_⟩
  rw[nn (by decide +kernel)]
  refine aZ ?_
  refine⟨_,rfl,rfl,_,rfl,?_⟩
  rw[yy]
  refine bT ?_
  have hN':t.N:=by unfold Kd.N at hN;exact hN
  have mV:t.tk.length<=1000:=by have:t.tk.length+1<=1000:=jD;omega
  rcases hor with⟨k,hmx,hS,q⟩|⟨hb,hf,fe⟩
  . cases k with
    |tree k=>
     refine⟨_,rfl,a,_,_,_,rfl,rfl,aM.of ha,rfl,F,u,t,rfl,hu,hN',mV,hT,.inl ⟨k,hmx,by unfold Kd.S at hS;exact hS,λu2 H1 qK hT1 hk=>⟨bC,λr hr'=>?_⟩⟩⟩
     have s2:Same H1 (upd H1 r (.tup [.str "tree",u2])):=Same.new hr'
     exact q _ _ (qK.trans (Kp.of s2)) (hT1.same s2) (by unfold KA;exact⟨r,u2,rfl,aG,KA.mono (Tu.of s2) k hk⟩)
    |_=>exact False.elim hmx
  . exact⟨_,rfl,a,_,_,_,rfl,rfl,aM.of ha,rfl,F,u,t,rfl,hu,hN',mV,hT,.inr ⟨hb,by unfold Kd.fw at hf;exact hf,fe⟩⟩
 |bW gs=>
  unfold TA at jk
  obtain⟨a,l,us,rfl,ha,XM,hl,iu⟩:=jk
  refine⟨_,rfl,a,_,_,_,rfl,rfl,aM.of ha,rfl,?_⟩
  refine⟨_,rfl,rfl,_,rfl,?_⟩
  rw[yy]
  refine bT ?_
  have hN':=hN
  unfold Kd.N at hN'
  have mV:gs.tk.length<=1000:=by
   have:(mkT 123::(gs.tk++[mkT 125])).length<=1000:=jD
   simp only[List.length_cons,List.length_append] at this
   omega
  refine⟨_,rfl,a,_,_,_,rfl,rfl,aM.of ha,rfl,?_⟩
  dsimp only[gY]
  rcases hor with⟨k,hmx,hS,q⟩|⟨hb,hf,fe⟩
  . cases k with
    |bW fs=>
     unfold Kd.S at hS
     obtain⟨tri,p1,p2,p3⟩:=hmx
     refine vG 0 "" "" gs (Qm:=Q) hl iu hN' mV (n13 hS.2.2.1 p1 p2) hT nQ nQ (.inl ⟨fs,tri,p1,p2,prep hS.2.2.2 p1 p3,hS.1,hS.2.1,(λz=>nomatch z),(λz=>nomatch z),λr t xs H' nR hT' hr ht hF=>q _ H' nR hT' (by unfold KA;exact⟨r,t,xs,rfl,hr,ht,hF⟩)⟩) λl' qs H1 hm=>⟨l',qs,rfl,hm⟩
    |_=>exact False.elim hmx
  . unfold Kd.fw at hf
    refine vG 0 "" "" gs (Qm:=Q) hl iu hN' mV hf.1 hT nQ nQ (.inr ⟨hb.imp id λz=>⟨z.1,.inl z.2⟩,hf.2,fe⟩) λl' qs H1 hm=>⟨l',qs,rfl,hm⟩
 |bV gs=>
  unfold TA at jk
  obtain⟨a,l,us,rfl,ha,XM,hl,iu⟩:=jk
  refine⟨_,rfl,a,_,_,_,rfl,rfl,aM.of ha,rfl,?_⟩
  refine⟨_,rfl,rfl,_,rfl,?_⟩
  rw[nn (by decide +kernel)]
  refine aZ ?_
  refine⟨_,rfl,rfl,_,rfl,?_⟩
  rw[nn (by decide +kernel)]
  refine aZ ?_
  refine⟨_,rfl,rfl,_,rfl,?_⟩
  rw[nn (by decide +kernel)]
  refine aZ ?_
  refine⟨_,rfl,rfl,_,rfl,?_⟩
  rw[yy]
  refine bT ?_
  have hN':=hN
  unfold Kd.N at hN'
  have mV:gs.tk.length<=1000:=by
   have:(aK eX::mkT 123::(gs.tk++[mkT 125])).length<=1000:=jD
   simp only[List.length_cons,List.length_append] at this
   omega
  refine⟨_,rfl,a,_,_,_,rfl,rfl,aM.of ha,rfl,?_⟩
  dsimp only[gY]
  rcases hor with⟨k,hmx,hS,q⟩|⟨hb,hf,fe⟩
  . cases k with
    |bV fs=>
     unfold Kd.S at hS
     obtain⟨tri,p1,p2,p3⟩:=hmx
     refine vG 1 "" "" gs (Qm:=Q) hl iu hN' mV (n13 hS.2.2.1 p1 p2) hT nQ nQ (.inl ⟨fs,tri,p1,p2,prep hS.2.2.2.2 p1 p3,hS.1,hS.2.1,(λ_=>hS.2.2.2.1),(λz=>nomatch z),λr t xs H' nR hT' hr ht hF=>q _ H' nR hT' (by unfold KA;exact⟨r,t,xs,rfl,hr,ht,hF⟩)⟩) λl' qs H1 hm=>⟨l',qs,rfl,hm⟩
    |_=>exact False.elim hmx
  . unfold Kd.fw at hf
    refine vG 1 "" "" gs (Qm:=Q) hl iu hN' mV hf.1 hT nQ nQ (.inr ⟨hb.imp id λz=>⟨z.1,z.2.imp id λy=>.inl ⟨rfl,y⟩⟩,hf.2,fe⟩) λl' qs H1 hm=>⟨l',qs,rfl,hm⟩
 |rows key b gs=>
  unfold TA at jk
  obtain⟨a,l,us,rfl,ha,XM,hl,iu⟩:=jk
  refine⟨_,rfl,a,_,_,_,rfl,rfl,aM.of ha,rfl,?_⟩
  refine⟨_,rfl,rfl,_,rfl,?_⟩
  rw[nn (by decide +kernel)]
  refine aZ ?_
  refine⟨_,rfl,rfl,_,rfl,?_⟩
  rw[yy]
  refine bT ?_
  have hN':=hN
  unfold Kd.N at hN'
  have mV:gs.tk.length<=1000:=by
   have:(aK cY::aK (sl key)::(dD b++mkT 123::(gs.tk++[mkT 125]))).length<=1000:=jD
   simp only[List.length_cons,List.length_append] at this
   omega
  refine⟨_,rfl,a,_,_,_,rfl,rfl,aM.of ha,rfl,_,rfl,a,_,_,_,rfl,rfl,aM.of ha,rfl,_,rfl,a,_,_,_,rfl,rfl,aM.of ha,rfl,?_⟩
  dsimp only[gY]
  rcases hor with⟨k,hmx,hS,q⟩|⟨hb,hf,fe⟩
  . cases k with
    |rows key' b' fs=>
     unfold Kd.S at hS
     obtain⟨ek,eb,tri,p1,p2,p3⟩:=hmx
     have ek:=ek.symm
     have eb:=eb.symm
     subst ek eb
     refine vG 2 key b gs (Qm:=Q) hl iu hN'.2.2 mV (n13 hS.2.2.1 p1 p2) hT hN'.1.yU (hN'.2.1.elim (λz=>by rw[z];exact nQ) λz=>z.yU) (.inl ⟨fs,tri,p1,p2,prep hS.2.2.2.2.2.2 p1 p3,hS.1,hS.2.1,(λz=>nomatch z),(λ_=>⟨hS.2.2.2.1,hS.2.2.2.2.1,hS.2.2.2.2.2.1⟩),λr t xs H' nR hT' hr ht hF=>q _ H' nR hT' (by unfold KA;exact⟨r,t,xs,rfl,hr,ht,hF⟩)⟩) λl' qs H1 hm=>⟨l',qs,_,_,rfl,hm⟩
    |_=>exact False.elim hmx
  . unfold Kd.fw at hf
    refine vG 2 key b gs (Qm:=Q) hl iu hN'.2.2 mV hf.1 hT hN'.1.yU (hN'.2.1.elim (λz=>by rw[z];exact nQ) λz=>z.yU) (.inr ⟨hb.imp id λz=>⟨z.1,z.2.imp id λy=>.inr ⟨rfl,y⟩⟩,hf.2,fe⟩) λl' qs H1 hm=>⟨l',qs,_,_,rfl,hm⟩
theorem Ja {Pt cK:Addr}(T:Tb mg)(gH:Dn K mg "made_kind" ["told"] (top 31) qO qP)(iy:Dn K mg "made_pairs" ["pairs"] (top 32) CJ CK)(lA:Dn K mg "record_of" ["pairs"] (top 9) yG yH)(yV:aB P w K mg base (bK P w) 9 yG yH ["pairs"] (Ir K Pt cK))(lC:Dn K mg "rows_of" ["key","by","pairs"] (top 11) yL yM)(yW:aB P w K mg base (bK P w) 9 yL yM ["key","by","pairs"] (Iv K Pt cK))(lB:Dn K mg "either_of" ["pairs"] (top 10) yJ yK)(yX:aB P w K mg base (bK P w) 9 yJ yK ["pairs"] (Iu K Pt cK)):∀n:Nat,aB P w K mg base (bK P w) (2 * n+10) qO qP ["told"] (yR n Pt cK)
 |0=>HJ λvs H Q E ⟨_,_,_,_,_,_,_,_,h⟩=>h.elim (λ⟨_,z,_⟩=>z) λz=>z.1
 |n+1=>ahb n T gH (Ja T gH iy lA yV lC yW lB yX n) iy (ag1 n (2 * n+10) T iy gH (Ja T gH iy lA yV lC yW lB yX n)) lA yV lC yW lB yX
noncomputable def Jb (cN:Addr) (H:Hp) (p:Nat) (E:XK):Prop:=∀dd H',Same H H'->H' dd=some (.xd [("place",.int p)])->E (.ref cN) (some dd) H'
noncomputable def XQ (d n:Nat) (Pt cN cK:Addr):Sp:=λvs H Q E=>∃x:Tx,∃t:Kd,∃c p:Nat,vs=[.str (ao x)]/\x.length<=100000/\cO (cI iv 0 x) 0 t.tk c p/\t.dq<=d/\t.N/\t.tk.length<=1000/\bU Pt cZ dg H/\
 ((c<t.tk.length/\Jb cN H p E)\/(t.tk.length<=c/\qC (cI iv 0 x) t.tk.length p/\Jb cN H p E)\/
  (t.tk.length<=c/\(∃q,(cI iv 0 x)[t.tk.length]? =some q/\q.sort=0/\q.th=.str [])/\((∃k,Mx n k t/\k.S/\∀u H',gk Pt H H'->bU Pt cZ dg H'->KA H' u k->Q u H')\/(dj n t/\t.fw/\yQ cK Pt H E))))
section
variable {P:Program}{w:World}{K:W.Frag}{mg:Str->Option Value}{base:Heap}
variable {C cN:Addr}
theorem XR:bR ["text","reader","told"] ["text"] (aN (top 27)):=cA
theorem ahc {Pt cK:Addr}(d n:Nat)(T:Tb mg)(RD:jL K mg C jd dZ fH ig d8 gC je iI)(qR:Dn K mg "read_kind" ["text"] (top 27) Jc Jd)(iM:Dn K mg "told_kind" ["reader"] (top 28) sX sY)(Ib:aB P w K mg base (bK P w) ((8 * d+7)+1) sX sY ["reader"] (Cp d C cN))(gH:Dn K mg "made_kind" ["told"] (top 31) qO qP)(yS:aB P w K mg base (bK P w) (2 * n+10) qO qP ["told"] (yR n Pt cK))(vf:Dm K "ask_end" "Reader.ask_end" ["self"] (aR 24 7) je Hw)(ahd:aB P w K mg base (bK P w) (3+1) je Hw ["self"] (VD C cN))(vd:Dm K "__init__" "Reader.__init__" ["self","text"] (aR 24 0) jd Hv)(ahe:aB P w K mg base aO (5) jd Hv ["self","text"] (VB C)):aB P w K mg base (bK P w) ((8 * d+2 * n+20)+1) Jc Jd ["text"] (XQ d n Pt cN cK):=by
 have CT:=RD.ct
 have ahf:=RD.e
 have ahg:=RD.mkk
 have ahh:=RD.m
 refine mC qR.F XR (λvs H Q E h=>?_) (λcdv A outer s H vs Q E hr h=>?_)
 . obtain⟨x,t,c,p,rfl,_⟩:=h
   rfl
 obtain⟨y,t,c,p,rfl,hl,hP,hd,hN,jD,hT,hor⟩:=h
 have nd:=XR.nd
 refine⟨_,(aC (aQ (i:=1) nd rfl (Or.inl rfl) (ac9 ahg ahe (hr.mono (by omega)) rfl ahh vd.b .nil aY (aj (pv 0) ak)))
  (aC (aQ (i:=2) nd rfl (Or.inl rfl) (aV Ib (hr.mono (by omega)) rfl iM.m iM.F.kp iM.b .nil (dY λ_ _ _ z=>z) (aj (pv 1) ak)))
  (aC (gW (ac7 (pv 1) CT ahf ahd (hr.mono (by omega)) vf.b .nil (dY λ_ _ _ z=>z)))
  (aH (aW (aV yS (hr.mono (by omega)) rfl gH.m gH.F.kp gH.b .nil (dY λ_ _ _ z=>z) (aj (pv 2) ak))))))),?_⟩
 refine⟨_,rfl,λx dx hx hdx hne=>⟨x,dx,y,rfl,hl,aG,λl us H2 k2 hR=>⟨rfl,?_⟩⟩⟩
 have s2:Same H H2:=λc o e=>by
  have hcx:=aJ e hx
  exact k2 c o hcx (by rw[aq hcx,aq (aJ e hdx)];exact e)
 refine⟨_,rfl,x,dx,l,us,_,0,t,c,p,rfl,hR,hP,hd,hN,jD,λhgd v H3 R3 hv=>?_,λhbd=>?_⟩
 . rw[Nat.zero_add] at R3
   have s3:Same H H3:=λc o e=>R3.kp c o (aJ e hx) (s2 _ _ e)
   rcases hor with⟨hc,_⟩|⟨_,⟨q,hq,q0,q1,q2⟩,er⟩|⟨_,⟨q,hq,hq0,hqt⟩,hmk⟩
   . exact absurd hc (by omega)
   . refine⟨_,rfl,x,dx,_,rfl,R3.at_.ob,rfl,x,dx,l,us,_,_,q,rfl,R3.at_,hq,.inr ⟨λz=>?_,λdd H4 s4 e=>?_⟩⟩
     . have z1:=z.1
       rw[q0] at z1
       exact absurd z1 (by show ¬dH 1=Str.ofString "end";decide +kernel)
     . rw[q2] at e
       exact er dd H4 (s3.trans s4) e
   . refine⟨_,rfl,x,dx,_,rfl,R3.at_.ob,rfl,x,dx,l,us,_,_,q,rfl,R3.at_,hq,.inl ⟨⟨by rw[hq0];rfl,by rw[hqt];rfl⟩,?_⟩⟩
     rcases hmk with⟨k,hmx,hS,fin⟩|⟨hb,hf,fe⟩
     . exact⟨_,rfl,_,v,t,rfl,hv,hN,jD,hT.same s3,.inl ⟨k,hmx,hS,λu H4 kp qL hk=>fin u H4 ((Kp.of s3).trans kp) qL hk⟩⟩
     . exact⟨_,rfl,_,v,t,rfl,hv,hN,jD,hT.same s3,.inr ⟨hb,hf,λH4 kp qL=>fe H4 ((Kp.of s3).trans kp) qL⟩⟩
 . rcases hor with⟨_,er⟩|⟨hc,_⟩|⟨hc,_⟩
   . exact λdd H4 k4 e=>er dd H4 (λc o ho=>k4 c o (aJ ho hx) (s2 _ _ ho)) e
   . exact absurd hc (by omega)
   . exact absurd hc (by omega)
end
noncomputable def gn:List Tx:=(["as","at","by","either","is","less","not","number","on","or","rows","same","then","top","tree","with"]:List String).map λs=>(Str.ofString s).cps.toList
theorem ahi:∀x∈gn,x≠[]/\x.length<=12/\∀c∈x,fu c=true:=by decide +kernel
theorem CN:gn.length=16:=by decide +kernel
theorem ahj:gn.Nodup:=by decide +kernel
noncomputable def lc (z:Int):Nat:=97+z.toNat
theorem ahk {z:Int}(h0:0<=z)(h1:z<26):fu (lc z)=true:=by
 unfold fu lc
 simp only[Bool.and_eq_true,decide_eq_true_eq]
 omega
noncomputable def jE (r:Int) (i:Nat):Tx:=
 if r / 12168 % 4=0 then List.replicate (i+1) (lc (r / 6 % 26))
 else if r / 12168 % 4=1 then gn.getD ((r / 6+(i:Int) * (2 * (r % 6)+1)) % 16).toNat []
 else if r / 12168 % 8=2 then [lc (r / 6 % 26),lc (r / 156 % 26),lc (r / 6 % 26),lc (r / 156 % 26),lc (r / 6 % 26),lc (r / 156 % 26),lc (r / 6 % 26),lc (r / 156 % 26),lc (r / 6 % 26),lc (r / 156 % 26),109,lc ((r / 156+(i:Int) * (2 * (r % 6)+1)) % 26)]
 else [lc (r / 6 % 26),lc (r / 156 % 26)].take (r / 4056 % 3).toNat++(lc ((r / 156+(i:Int) * (2 * (r % 6)+1)) % 26)::[lc (r / 6 % 26),lc (r / 156 % 26)].drop (r / 4056 % 3).toNat)
theorem vH (z:Int):0<=z % 26/\z % 26<26:=⟨Int.emod_nonneg _ (by decide),Int.emod_lt_of_pos _ (by decide)⟩
theorem CP (z:Int):0<=z % 16/\z % 16<16:=⟨Int.emod_nonneg _ (by decide),Int.emod_lt_of_pos _ (by decide)⟩
theorem yZ (z:Int):fu (lc (z % 26))=true:=ahk (vH z).1 (vH z).2
theorem ahl {r:Int}{i:Nat}(hi:i<12):bZ (jE r i):=by
 unfold jE
 split
 . refine⟨by rw[List.replicate_succ];exact List.cons_ne_nil _ _,by rw[List.length_replicate];omega,λu hu=>?_⟩
   rw[List.eq_of_mem_replicate hu];exact yZ _
 . split
   . have h:=CP (r / 6+(i:Int) * (2 * (r % 6)+1))
     have hl:((r / 6+(i:Int) * (2 * (r % 6)+1)) % 16).toNat<gn.length:=by rw[CN];omega
     rw[List.getD_eq_getElem?_getD,List.getElem?_eq_getElem hl]
     exact ahi _ (List.getElem_mem hl)
   . split
     . refine⟨List.cons_ne_nil _ _,Nat.le_refl 12,λu hu=>?_⟩
       simp only[List.mem_cons,List.not_mem_nil,or_false] at hu
       rcases hu with rfl|rfl|rfl|rfl|rfl|rfl|rfl|rfl|rfl|rfl|rfl|rfl
       all_goals first|exact yZ _|decide
     . refine⟨by simp,?_,λu hu=>?_⟩
       . have:[lc (r / 6 % 26),lc (r / 156 % 26)].length=2:=rfl
         simp only[List.length_append,List.length_take,List.length_cons,List.length_drop,List.length_nil]
         omega
       . have hu:u∈[lc (r / 6 % 26),lc (r / 156 % 26)]\/u=lc ((r / 156+(i:Int) * (2 * (r % 6)+1)) % 26):=by
          rcases List.mem_append.mp hu with h|h
          . exact .inl (List.mem_of_mem_take h)
          . rcases List.mem_cons.mp h with h|h
            . exact .inr h
            . exact .inl (List.mem_of_mem_drop h)
         simp only[List.mem_cons,List.not_mem_nil,or_false] at hu
         rcases hu with(rfl|rfl)|rfl
         . exact yZ _
         . exact yZ _
         . exact yZ _
theorem XS {a b:Int}(ha:0<=a)(hb:0<=b)(e:a.toNat=b.toNat):a=b:=(Int.toNat_of_nonneg ha).symm.trans ((congrArg Int.ofNat e).trans (Int.toNat_of_nonneg hb))
theorem ahm {a b:Int}(ha:0<=a)(hb:0<=b)(e:lc a=lc b):a=b:=XS ha hb (Nat.add_left_cancel e)
theorem ahn:∀(c:Fin 6) (i j:Fin 12),(((i.val:Int) - j.val) * (2 * c.val+1) % 26=0\/((i.val:Int) - j.val) * (2 * c.val+1) % 16=0)->i=j:=by decide +kernel
theorem X3 {m N:Int}{s:Int}{i j:Nat}(hN:N=26\/N=16)(h0:0<=s)(h6:s<6)(hi:i<12)(hj:j<12)(e:(m+(i:Int) * (2 * s+1)) % N=(m+(j:Int) * (2 * s+1)) % N):i=j:=by
 obtain⟨c,rfl⟩:∃c:Nat,s=c:=⟨s.toNat,(Int.toNat_of_nonneg h0).symm⟩
 have e2:=Int.emod_eq_emod_iff_emod_sub_eq_zero.mp e
 rw[Int.add_sub_add_left,<-Int.sub_mul] at e2
 have:=ahn ⟨c,Int.ofNat_lt.mp h6⟩ ⟨i,hi⟩ ⟨j,hj⟩ (by
  rcases hN with rfl|rfl
  . exact .inl e2
  . exact .inr e2)
 exact Fin.mk.inj this
theorem aho {r:Int}{i j:Nat}(hi:i<12)(hj:j<12)(h:jE r i=jE r j):i=j:=by
 have s0:=Int.emod_nonneg r (show(6:Int)≠0 by decide)
 have s6:=Int.emod_lt_of_pos r (show(0:Int)<6 by decide)
 have X4:lc ((r / 156+(i:Int) * (2 * (r % 6)+1)) % 26)=lc ((r / 156+(j:Int) * (2 * (r % 6)+1)) % 26)->i=j:=λe=>by
  refine X3 (.inl rfl) s0 s6 hi hj (m:=r / 156) ?_
  exact ahm (vH _).1 (vH _).1 e
 unfold jE at h
 by_cases h0:r / 12168 % 4=0
 . rw[if_pos h0,if_pos h0] at h
   have:=congrArg List.length h
   rw[List.length_replicate,List.length_replicate] at this
   omega
 . rw[if_neg h0,if_neg h0] at h
   by_cases h1:r / 12168 % 4=1
   . rw[if_pos h1,if_pos h1] at h
     have a:=CP (r / 6+(i:Int) * (2 * (r % 6)+1))
     have b:=CP (r / 6+(j:Int) * (2 * (r % 6)+1))
     have ha:((r / 6+(i:Int) * (2 * (r % 6)+1)) % 16).toNat<gn.length:=by rw[CN];omega
     have hb:((r / 6+(j:Int) * (2 * (r % 6)+1)) % 16).toNat<gn.length:=by rw[CN];omega
     rw[List.getD_eq_getElem?_getD,List.getD_eq_getElem?_getD,List.getElem?_eq_getElem ha,List.getElem?_eq_getElem hb] at h
     have:=(List.getElem_inj ahj).mp (show gn[_]=gn[_] from h)
     exact X3 (.inr rfl) s0 s6 hi hj (m:=r / 6) (XS a.1 b.1 this)
   . rw[if_neg h1,if_neg h1] at h
     by_cases h2:r / 12168 % 8=2
     . rw[if_pos h2,if_pos h2] at h
       have:=congrArg (λl:List Nat=>l.getD 11 0) h
       exact X4 this
     . rw[if_neg h2,if_neg h2] at h
       exact X4 (List.cons.inj (List.append_cancel_left h)).1
noncomputable def qT (r:Int) (i:Nat):Str:=ao (jE r i)
theorem ahp {r:Int}{n:Nat}(hn:n<=12):((List.range n).map (qT r)).Nodup:=
 afe λi j hi hj e=>aho (r:=r) (by omega) (by omega) (by
  have:=congrArg (λs:Str=>s.cps.toList) e
  exact this)
theorem ahq (z:Int):cM (gn.map SX) (z % 16)=some (SX (gn.getD (z % 16).toNat [])):=by
 have h:=CP z
 have hl:(z % 16).toNat<gn.length:=by rw[CN];omega
 have e:z % 16=(((z % 16).toNat:Nat):Int):=by omega
 have:=gZ (show(gn.map SX)[(z % 16).toNat]? =some (SX (gn.getD (z % 16).toNat [])) by rw[List.getElem?_map,List.getD_eq_getElem?_getD,List.getElem?_eq_getElem hl];rfl)
 rw[<-e] at this
 exact this
noncomputable abbrev qU:List V:=[.str "as",.str "at",.str "by",.str "either",.str "is",.str "less",.str "not",.str "number"]
noncomputable abbrev qW:List V:=[.str "on",.str "or",.str "rows",.str "same",.str "then",.str "top",.str "tree",.str "with"]
theorem ahr:qU++qW=gn.map SX:=by decide +kernel
theorem X5 {x:Str}(hx:x.length=1\/x.length=2){n:Nat}(h1:1<=n)(hn:n<=12):MulOk x (n:Int):=by
 unfold MulOk
 rcases hx with e|e <;> rw[e]
 all_goals match n,h1,hn with
  |1,_,_=>exact⟨by decide,λ_ _=>by decide,λ_ _=>by decide +kernel⟩
  |2,_,_=>exact⟨by decide,λ_ _=>by decide,λ_ _=>by decide +kernel⟩
  |3,_,_=>exact⟨by decide,λ_ _=>by decide,λ_ _=>by decide +kernel⟩
  |4,_,_=>exact⟨by decide,λ_ _=>by decide,λ_ _=>by decide +kernel⟩
  |5,_,_=>exact⟨by decide,λ_ _=>by decide,λ_ _=>by decide +kernel⟩
  |6,_,_=>exact⟨by decide,λ_ _=>by decide,λ_ _=>by decide +kernel⟩
  |7,_,_=>exact⟨by decide,λ_ _=>by decide,λ_ _=>by decide +kernel⟩
  |8,_,_=>exact⟨by decide,λ_ _=>by decide,λ_ _=>by decide +kernel⟩
  |9,_,_=>exact⟨by decide,λ_ _=>by decide,λ_ _=>by decide +kernel⟩
  |10,_,_=>exact⟨by decide,λ_ _=>by decide,λ_ _=>by decide +kernel⟩
  |11,_,_=>exact⟨by decide,λ_ _=>by decide,λ_ _=>by decide +kernel⟩
  |12,_,_=>exact⟨by decide,λ_ _=>by decide,λ_ _=>by decide +kernel⟩
  |_+13,_,h=>exact absurd h (Nat.not_le_of_lt (Nat.lt_of_lt_of_le (by decide:12<13) (Nat.le_add_left _ _)))
theorem Je (c d:Nat):Txt.mul (ao [c,d]) 5=ao [c,d,c,d,c,d,c,d,c,d]:=by
 unfold Txt.mul
 rw[if_neg (by decide)]
 rfl
theorem ahs (c d:Nat){k:Int}(h:k=0\/k=1\/k=2):Txt.slice (ao [c,d]) none (some k)=ao ([c,d].take k.toNat)/\Txt.slice (ao [c,d]) (some k) none=ao ([c,d].drop k.toNat):=by
 rcases h with rfl|rfl|rfl
 . exact⟨rfl,by first|rfl|with_unfolding_all rfl|(unfold Txt.slice;rfl)⟩
 . exact⟨rfl,by first|rfl|with_unfolding_all rfl|(unfold Txt.slice;rfl)⟩
 . exact⟨rfl,rfl⟩
noncomputable def za (K:W.Frag):Sp:=λvs H Q _=>∃a b ns n,∃m:Nat,vs=[.ref a,.ref b,.int m]/\m<=12/\G0 K H a b ns n/\n<=1000000000000/\
 ∀(p:Addr) (ss:List Str) (H':Hp),SB b H H'->H' b=some (.lst [.int (n+1)])->p≠b->H' p=some (.lst (ss.map V.str))->ss.length=m->ss.Nodup->ss.Pairwise sle->(∀x∈ss,bZ (sl x))->Q (.ref p) H'
theorem X6:bR ["_law_script","_law_at","_law_many","_law_letters","_law_words","_law_m","_law_step","_law_stem","_law_cut","_law_names_here","_law_k","_law_sign"] ["_law_script","_law_at","_law_many"] (aN (top 35)):=cA
theorem X7 (T:Tb mg)(dN:Dn K mg "_law_names" ["_law_script","_law_at","_law_many"] (top 35) nU nW)(bA:Dn K mg "_law_next" ["_law_script","_law_at"] (top 34) eU eV)(fJ:aB P w K mg base aO (1) eU eV ["_law_script","_law_at"] (lZ K)):aB P w K mg base aO (2) nU nW ["_law_script","_law_at","_law_many"] (za K):=by
 refine dN.F.ok X6 (λvs H Q E h=>?_) (λcdv A outer s H vs Q E hr h=>?_)
 . obtain⟨a,b,ns,n,m,rfl,_⟩:=h
   rfl
 obtain⟨a,b,ns,n,m,rfl,hm,g,hn,q⟩:=h
 have nd:=X6.nd
 refine⟨_,(aC (aQ (i:=3) nd rfl (Or.inl rfl) aD)
  (aC (aQ (i:=4) nd rfl (Or.inl rfl) (bJ (aj aD (aj aD (aj aD (aj aD (aj aD (aj aD (aj aD (aj aD ak))))))))))
  (aC (aQ (i:=4) nd rfl (Or.inl rfl) (aF eO (pv 4) (bJ (aj aD (aj aD (aj aD (aj aD (aj aD (aj aD (aj aD (aj aD ak)))))))))))
  (aC (aQ (i:=5) nd rfl (Or.inl rfl) (aV fJ (hr.mono (by omega)) rfl bA.m bA.F.kp bA.b .nil aY (aj (pv 0) (aj (pv 1) ak))))
  (aC (aQ (i:=6) nd rfl (Or.inl rfl) (aU dU (bJ (aj au (aj au (aj au (aj au (aj au (aj au ak))))))) (aF cC (pv 5) au) (λ_ _=>rfl)))
  (aC (aQ (i:=7) nd rfl (Or.inl rfl) (aF jG (aU jY (pv 3) (aF cC (aF dR (pv 5) au) au) (λ_ _=>rfl)) (aU jY (pv 3) (aF cC (aF dR (pv 5) au) au) (λ_ _=>rfl))))
  (aC (aQ (i:=8) nd rfl (Or.inl rfl) (aF cC (aF dR (pv 5) au) au))
  (aC (aQ (i:=9) nd rfl (Or.inl rfl) (bJ ak))
  (aC (lQ PassesOwn.never rfl (wG rfl T.uV (aj (pv 2) ak)) (dw (i:=10) nd rfl (Or.inl rfl)) (aC (aQ (i:=11) nd rfl (Or.inl rfl) (aU jY (pv 3) (aF cC (aF gK (aF dR (pv 5) au) (aF uF (pv 10) (pv 6))) au) (λ_ _=>rfl)))
  (aH (bF (bh cj (aF cC (aF dR (pv 5) au) au) au (bw _)) (aH (gW (iZ PySem.F.plainAttrs_list PySem.F.slot_list_append PySem.F.type_list_append k_ (pv 9) (aj (aF Ax (aU jY (pv 3) (aF cC (aF dR (pv 5) au) au) (λ_ _=>rfl)) (aF gK (pv 10) au)) ak)))) (aH (bF (bh cj (aF cC (aF dR (pv 5) au) au) au (bw _)) (aH (gW (iZ PySem.F.plainAttrs_list PySem.F.slot_list_append PySem.F.type_list_append k_ (pv 9) (aj (aU dU (pv 4) (aF cC (aF gK (aF dR (pv 5) au) (aF uF (pv 10) (pv 6))) au) (λ_ _=>rfl)) ak)))) (aH (bF (bh cj (aF cC (aF dR (pv 5) au) au) au (bw _)) (aH (gW (iZ PySem.F.plainAttrs_list PySem.F.slot_list_append PySem.F.type_list_append k_ (pv 9) (aj (aF jG (aF jG (aF Ax (pv 7) au) aD) (pv 11)) ak)))) (aH (gW (iZ PySem.F.plainAttrs_list PySem.F.slot_list_append PySem.F.type_list_append k_ (pv 9) (aj (aF jG (aF jG (lV uL (pv 7) uJ (iY (pv 8))) (pv 11)) (lV uL (pv 7) (iY (pv 8)) uJ)) ak))))))))))))
  (aH (aW (gb adS (by rfl) T.Ho boot_sorted (aj (pv 9) ak))))))))))))),?_⟩
 have hb:=g.at_
 refine⟨Rm,λp1 hp1=>?_⟩
 refine⟨_,rfl,Rm,λp2 hp2=>?_⟩
 have u1:upd H p1 (.lst qU) p1=some (.lst qU):=aG
 have b1:upd H p1 (.lst qU) b=some (.lst [.int n]):=by rw[aq (aJ hb hp1)];exact hb
 have s1:SB b H (upd H p1 (.lst qU)):=SB.new hp1
 generalize upd H p1 (.lst qU)=H1 at *
 have u2:upd H1 p2 (.lst qW) p2=some (.lst qW):=aG
 have X8:upd H1 p2 (.lst qW) p1=some (.lst qU):=by rw[aq (aJ u1 hp2)];exact u1
 have b4:upd H1 p2 (.lst qW) b=some (.lst [.int n]):=by rw[aq (aJ b1 hp2)];exact b1
 have s4:SB b H (upd H1 p2 (.lst qW)):=s1.trans (SB.new hp2)
 generalize upd H1 p2 (.lst qW)=H4 at *
 refine⟨p1,p2,qU,qW,rfl,rfl,X8,u2,abY,λp5 kj=>?_⟩
 rw[ahr]
 have n5b:p5≠b:=λe=>by rw[e,b4] at kj;cases kj
 have w5:upd H4 p5 (.lst (gn.map SX)) p5=some (.lst (gn.map SX)):=aG
 have b5:upd H4 p5 (.lst (gn.map SX)) b=some (.lst [.int n]):=by rw[aq (aJ b4 kj)];exact b4
 have s5:SB b H (upd H4 p5 (.lst (gn.map SX))):=s4.trans (SB.new kj)
 generalize upd H4 p5 (.lst (gn.map SX))=H5 at *
 generalize hWT:gn.map SX=WT at *
 clear u1 u2 X8 hp1 hp2 kj b1 b4 s1 s4
 have g5:G0 K H5 a b ns n:=g.go s5 b5 (Int.le_refl _)
 refine⟨_,rfl,_,rfl,a,b,ns,n,rfl,g5,hn,λr H6 r0 r1 s6 h6=>?_⟩
 have zc:=s5.trans s6
 have w6:=s6 _ _ n5b w5
 have hz:(Str.ofString "abcdefghijklmnopqrstuvwxyz").length<=sizeLine:=by decide +kernel
 have m6:0<=r % 6/\r % 6<6:=by omega
 refine⟨Fg,λp7 Jf=>?_⟩
 refine⟨_,rfl,_,_,rfl,rfl,(by show(0:Int)<_;decide),p7,_,_,_,rfl,rfl,aL.of aG,afc m6.1 m6.2,?_⟩
 have s7:SB b H (upd H6 p7 (.lst [.int 1,.int 3,.int 5,.int 7,.int 9,.int 11])):=zc.trans (SB.new Jf)
 have h7:upd H6 p7 (.lst [.int 1,.int 3,.int 5,.int 7,.int 9,.int 11]) b=some (.lst [.int (n+1)]):=by rw[aq (aJ h6 Jf)];exact h6
 have w7:upd H6 p7 (.lst [.int 1,.int 3,.int 5,.int 7,.int 9,.int 11]) p5=some (.lst WT):=by rw[aq (aJ w6 Jf)];exact w6
 generalize upd H6 p7 (.lst [.int 1,.int 3,.int 5,.int 7,.int 9,.int 11])=H7 at s7 h7 w7
 have ix:∀z:Int,cM (Str.ofString "abcdefghijklmnopqrstuvwxyz").cps.toList (z % 26)=some (lc (z % 26)):=λz=>afb (vH z).1 (vH z).2
 refine⟨_,rfl,_,rfl,_,_,rfl,rfl,⟨by decide,by decide⟩,_,_,rfl,rfl,(by show(0:Int)<_;decide),_,_,_,rfl,rfl,hz,ix (r / 6),_,rfl,_,rfl,_,_,rfl,rfl,⟨by decide,by decide⟩,_,_,rfl,rfl,(by show(0:Int)<_;decide),_,_,_,rfl,rfl,hz,ix (r / 156),
  _,_,rfl,rfl,bC,?_⟩
 refine⟨_,rfl,_,_,rfl,rfl,⟨by decide,by decide⟩,_,_,rfl,rfl,(by show(0:Int)<_;decide),?_⟩
 refine⟨um,λp hp=>?_⟩
 have hpb:b≠p:=aJ h7 hp
 have CQ:p5≠p:=aJ w7 hp
 have em:Int.toNat (m:Int)=m:=by omega
 generalize Jg:Str.ofString "abcdefghijklmnopqrstuvwxyz"=LT at *
 refine⟨_,rfl,_,rfl,by omega,by omega,uD (n:=Int.toNat (m:Int)) (λi σ H'=>∃y z,σ=[some (.ref a),some (.ref b),some (.int m),some (.str LT),some (.ref p5),some (.int r),some (.int (2 * (r % 6)+1)),some (.str (ao [lc (r / 6 % 26),lc (r / 156 % 26)])),some (.int (r / 4056 % 3)),some (.ref p),y,z]/\SB b H H'/\H' b=some (.lst [.int (n+1)])/\H' p5=some (.lst WT)/\H' p=some (.lst (((List.range i).map (qT r)).map V.str))) ?_ ?_ ?_⟩
 . exact⟨_,_,rfl,s7.trans (SB.new hp),by rw[aq hpb];exact h7,by rw[aq CQ];exact w7,aG⟩
 . rintro i σ H' hi ⟨y,z,rfl,sb,hb',hw',hp'⟩
   rw[em] at hi
   have hlen:(((List.range i).map (qT r)).map V.str).length<sizeLine:=by
    rw[List.length_map,List.length_map,List.length_range]
    exact Nat.lt_of_le_of_lt (show i<=12 by omega) (by decide)
   have esn:((List.range (i+1)).map (qT r)).map V.str=((List.range i).map (qT r)).map V.str++[SX (jE r i)]:=by
    rw[List.range_succ,List.map_append,List.map_append];rfl
   generalize hx0:((List.range i).map (qT r)).map V.str=xs0 at *
   have next:∀(v:V) (y' z':Option V),v=SX (jE r i)->∃y z,[some (.ref a),some (.ref b),some (.int m),some (.str LT),some (.ref p5),some (.int r),some (.int (2 * (r % 6)+1)),some (.str (ao [lc (r / 6 % 26),lc (r / 156 % 26)])),some (.int (r / 4056 % 3)),some (.ref p),y',z']=[some (.ref a),some (.ref b),some (.int m),some (.str LT),some (.ref p5),some (.int r),some (.int (2 * (r % 6)+1)),some (.str (ao [lc (r / 6 % 26),lc (r / 156 % 26)])),some (.int (r / 4056 % 3)),some (.ref p),y,z]/\SB b H (upd H' p (.lst (xs0++[v])))/\upd H' p (.lst (xs0++[v])) b=some (.lst [.int (n+1)])/\upd H' p (.lst (xs0++[v])) p5=some (.lst WT)/\upd H' p (.lst (xs0++[v])) p=some (.lst (((List.range (i+1)).map (qT r)).map V.str)):=by
    rintro v y' z' rfl
    refine⟨y',z',rfl,λc o hc hh=>?_,by rw[aq hpb];exact hb',by rw[aq CQ];exact hw',by rw[aG,esn]⟩
    have:c≠p:=aJ (s7 c o hc hh) hp
    rw[aq this];exact sb c o hc hh
   have e0:(0:Int)+(i:Int)=(i:Int):=by omega
   have k6:0<=2 * (r % 6)+1/\2 * (r % 6)+1<=11:=by omega
   have fin:∀X:Tx,jE r i=X->jE r i=X:=λ_ h=>h
   unfold jE at fin
   refine⟨_,rfl,_,rfl,_,_,rfl,rfl,⟨by decide,by decide⟩,_,rfl,_,rfl,_,_,rfl,rfl,.inl ⟨by omega,by omega⟩,_,_,rfl,rfl,_,_,rfl,rfl,(by show(0:Int)<_;decide),_,_,_,rfl,rfl,hz,ix _,?_⟩
   rw[e0]
   refine⟨_,rfl,_,_,rfl,rfl,⟨by decide,by decide⟩,_,_,rfl,rfl,(by show(0:Int)<_;decide),rfl,_,rfl,bN (λc=>?_) (λc=>?_)⟩
   . have c':r / 12168 % 4=0:=by
      have:=of_decide_eq_true c
      injection this
     refine⟨_,rfl,.inl ⟨rfl,_,aL.of hp'⟩,_,rfl,_,rfl,_,_,rfl,rfl,⟨by decide,by decide⟩,_,_,rfl,rfl,(by show(0:Int)<_;decide),_,_,_,rfl,rfl,hz,ix (r / 6),_,rfl,_,_,rfl,rfl,_,_,rfl,rfl,?_,p,_,_,rfl,rfl,hp',hlen,?_⟩
     . exact X5 (.inl rfl) (n:=i+1) (by omega) (by omega)
     . refine next _ _ _ ?_
       unfold jE
       rw[if_pos c']
       exact congrArg V.str (Wb _ i)
   . have c':¬r / 12168 % 4=0:=λz=>c (decide_eq_true (show V.int (r / 12168 % 4)=V.int 0 by rw[z]))
     refine⟨_,rfl,_,_,rfl,rfl,⟨by decide,by decide⟩,_,_,rfl,rfl,(by show(0:Int)<_;decide),rfl,_,rfl,bN (λd=>?_) (λd=>?_)⟩
     . have d':r / 12168 % 4=1:=by
        have:=of_decide_eq_true d
        injection this
       refine⟨_,rfl,.inl ⟨rfl,_,aL.of hp'⟩,_,rfl,_,rfl,_,_,rfl,rfl,⟨by decide,by decide⟩,_,rfl,_,rfl,_,_,rfl,rfl,.inl ⟨by omega,by omega⟩,_,_,rfl,rfl,_,_,rfl,rfl,(by show(0:Int)<_;decide),p5,_,_,_,rfl,rfl,aL.of hw',by rw[<-hWT];exact ahq _,p,_,_,rfl,rfl,hp',hlen,next _ _ _ ?_⟩
       unfold jE
       rw[if_neg c',if_pos d']
     . have d':¬r / 12168 % 4=1:=λz=>d (decide_eq_true (show V.int (r / 12168 % 4)=V.int 1 by rw[z]))
       refine⟨_,rfl,_,_,rfl,rfl,⟨by decide,by decide⟩,_,_,rfl,rfl,(by show(0:Int)<_;decide),rfl,_,rfl,bN (λf=>?_) (λf=>?_)⟩
       . have f':r / 12168 % 8=2:=by
          have:=of_decide_eq_true f
          injection this
         refine⟨_,rfl,.inl ⟨rfl,_,aL.of hp'⟩,_,rfl,_,_,rfl,rfl,X5 (.inr rfl) (n:=5) (by omega) (by omega),_,_,rfl,rfl,by rw[Je];show 10+1<=sizeLine;decide,_,rfl,_,_,rfl,rfl,by rw[Je];show 11+1<=sizeLine;decide,p,_,_,rfl,rfl,hp',hlen,?_⟩
         refine next _ _ _ ?_
         unfold jE
         rw[if_neg c',if_neg d',if_pos f',Je]
         rfl
       . have f':¬r / 12168 % 8=2:=λz=>f (decide_eq_true (show V.int (r / 12168 % 8)=V.int 2 by rw[z]))
         obtain⟨hu,hv⟩:=ahs (lc (r / 6 % 26)) (lc (r / 156 % 26)) (k:=r / 4056 % 3) (by omega)
         have ls:(ao [lc (r / 6 % 26),lc (r / 156 % 26)]).length<=sizeLine:=by show 2<=sizeLine;decide
         have t1:([lc (r / 6 % 26),lc (r / 156 % 26)].take (r / 4056 % 3).toNat).length<=2:=List.length_take_le' _ _
         have t2:([lc (r / 6 % 26),lc (r / 156 % 26)].drop (r / 4056 % 3).toNat).length<=2:=by rw[List.length_drop];exact Nat.sub_le _ _
         refine⟨_,rfl,.inl ⟨rfl,_,aL.of hp'⟩,_,rfl,_,rfl,_,rfl,_,rfl,ls,_,rfl,_,_,rfl,rfl,?_,_,rfl,_,rfl,_,rfl,_,rfl,ls,_,_,rfl,rfl,?_,p,_,_,rfl,rfl,hp',hlen,?_⟩
         . rw[hu];exact sS (y:=[_]) (by show _+1<=_;omega)
         . rw[hu,hv,afd,dB,dB];show _+1+_<=sizeLine;exact Nat.le_trans (show _<=10 by omega) (by decide)
         . refine next _ _ _ ?_
           unfold jE
           rw[if_neg c',if_neg d',if_neg f',hu,hv]
           show V.str (ao _++ao [_]++ao _)=SX _
           rw[mj,mj,List.append_assoc];rfl
 . rintro σ H' ⟨y,z,rfl,sb,hb',hw',hp'⟩
   rw[em] at hp'
   have hl2:((List.range m).map (qT r)).length=m:=by rw[List.length_map,List.length_range]
   refine⟨_,rfl,p,_,rfl,aL.of hp',by rw[hl2];omega,λp' ss' hp2 hperm o8=>?_⟩
   refine q p' ss' _ (sb.trans (SB.new hp2)) (by rw[aq (aJ hb' hp2)];exact hb') (λz=>by rw[z,hb'] at hp2;cases hp2) aG (hperm.length_eq.trans hl2) (hperm.nodup_iff.mpr (ahp hm)) (W4 o8) λx hx=>?_
   obtain⟨i,hi,rfl⟩:=List.mem_map.mp (hperm.mem_iff.mp hx)
   exact ahl (by have:=List.mem_range.mp hi;omega)
noncomputable def tN:Nat->Nat
 |0=>1
 |d+1=>15+3 * tN d
structure d_ (d:Nat) (k:Kd):Prop where
 dep:k.dep<=d+1
 n:k.N
 s:k.S
 t:k.tk.length<=tN d
noncomputable def cU (d:Nat) (fs:Fs):Prop:=∀e∈fs.toL,bZ (sl e.1)/\d_ d e.2
theorem X_ (d:Nat):1<=tN d:=by cases d <;> simp[tN];omega
theorem d_.plain {d:Nat}:∀{k:Kd},i_ k->d_ d k
 | .num,_=>⟨by simp[Kd.dep],by simp[Kd.N],by simp[Kd.S],X_ d⟩
 | .bQ,_=>⟨by simp[Kd.dep],by simp[Kd.N],by simp[Kd.S],X_ d⟩
theorem Fs.CV:∀(fs:Fs) (x:Str) (k:Kd),(fs.snoc x k).toL=fs.toL++[(x,k)]
 | .nil,_,_=>rfl
 | .cons y q r,x,k=>by show(y,q)::(r.snoc x k).toL=_;rw[Fs.CV r];rfl
theorem cU.nil (d:Nat):cU d .nil:=λe he=>nomatch he
theorem cU.snoc {d:Nat}{fs:Fs}{x:Str}{k:Kd}(h:cU d fs)(hx:bZ (sl x))(hk:d_ d k):cU d (fs.snoc x k):=by
 intro e he
 rw[Fs.CV] at he
 rcases List.mem_append.mp he with he|he
 . exact h e he
 . rw[List.mem_singleton.mp he];exact⟨hx,hk⟩
theorem cU.tl {d:Nat}{x:Str}{k:Kd}{r:Fs}(h:cU d (.cons x k r)):(bZ (sl x)/\d_ d k)/\cU d r:=
 ⟨h (x,k) List.mem_cons_self,λe he=>h e (List.mem_cons_of_mem _ he)⟩
theorem cU.dep {d:Nat}:∀{fs:Fs},cU d fs->fs.dep<=d+1
 | .nil,_=>Nat.zero_le _
 | .cons x k r,h=>by
   have a:=h.tl.1.2.dep
   have b:=cU.dep h.tl.2
   show max k.dep r.dep<=_
   omega
theorem cU.n {d:Nat}:∀{fs:Fs},cU d fs->fs.N
 | .nil,_=>by simp[Fs.N]
 | .cons x k r,h=>by unfold Fs.N;exact⟨h.tl.1.1,h.tl.1.2.n,cU.n h.tl.2⟩
theorem cU.s {d:Nat}:∀{fs:Fs},cU d fs->fs.S
 | .nil,_=>by simp[Fs.S]
 | .cons x k r,h=>by unfold Fs.S;exact⟨h.tl.1.2.s,cU.s h.tl.2⟩
theorem cU.tR {d:Nat}:∀{fs:Fs},cU d fs->fs.cD.length<=fs.names.length * (3+tN d)
 | .nil,_=>by simp[Fs.cD]
 | .cons x k r,h=>by
   have a:=h.tl.1.2.t
   have b:=cU.tR h.tl.2
   have e:(Fs.cons x k r).cD.length=3+k.tk.length+r.cD.length:=by
    show(mkT 44::aK (sl x)::mkT 58::(k.tk++r.cD)).length=_
    simp only[List.length_cons,List.length_append];omega
   have e2:(Fs.cons x k r).names.length=r.names.length+1:=rfl
   rw[e,e2,Nat.add_mul,Nat.one_mul]
   omega
theorem cU.t {d:Nat}{fs:Fs}(h:cU d fs):fs.tk.length<=fs.names.length * (3+tN d):=by
 refine Nat.le_trans ?_ h.tR
 cases fs with
 |nil=>exact Nat.le_refl _
 |cons x k r=>
  show(aK (sl x)::mkT 58::(k.tk++r.cD)).length<=(mkT 44::aK (sl x)::mkT 58::(k.tk++r.cD)).length
  simp only[List.length_cons];omega
theorem cU.t3 {d:Nat}{fs:Fs}(h:cU d fs)(h3:fs.names.length<=3):fs.tk.length<=9+3 * tN d:=by
 have:=Nat.mul_le_mul_right (3+tN d) h3
 have:=h.t
 omega
theorem d_.bW {d:Nat}{fs:Fs}(h:cU d fs)(h3:fs.names.length<=3)(h1:fs.names.Pairwise sle)(h2:fs.names.Nodup):d_ (d+1) (.bW fs):=by
 have hd:=h.dep
 have ht:=h.t3 h3
 refine⟨by simp only[Kd.dep];omega,by unfold Kd.N;exact h.n,by unfold Kd.S;exact⟨h1,h2,by omega,h.s⟩,?_⟩
 show(mkT 123::(fs.tk++[mkT 125])).length<=15+3 * tN d
 simp only[List.length_cons,List.length_append,List.length_nil]
 omega
theorem d_.bV {d:Nat}{fs:Fs}(h:cU d fs)(h0:1<=fs.names.length)(h3:fs.names.length<=3)(h1:fs.names.Pairwise sle)(h2:fs.names.Nodup):d_ (d+1) (.bV fs):=by
 have hd:=h.dep
 have ht:=h.t3 h3
 refine⟨by simp only[Kd.dep];omega,by unfold Kd.N;exact h.n,by unfold Kd.S;exact⟨h1,h2,by omega,λe=>by rw[e] at h0;exact absurd h0 (by decide),h.s⟩,?_⟩
 show(aK eX::mkT 123::(fs.tk++[mkT 125])).length<=15+3 * tN d
 simp only[List.length_cons,List.length_append,List.length_nil]
 omega
theorem d_.tree {d:Nat}{k:Kd}(h:d_ d k):d_ (d+1) (.tree k):=by
 have hd:=h.dep
 have ht:=h.t
 refine⟨by simp only[Kd.dep];omega,by unfold Kd.N;exact h.n,by unfold Kd.S;exact h.s,?_⟩
 show(aK jg::k.tk).length<=15+3 * tN d
 simp only[List.length_cons]
 omega
theorem Jh (b:Str):(dD b).length<=2:=by unfold dD;split <;> simp
theorem d_.rows {d:Nat}{key b:Str}{fs:Fs}(h:cU d fs)(h3:fs.names.length<=3)(h1:fs.names.Pairwise sle)(h2:fs.names.Nodup)(hk:bZ (sl key))(hb:b=""\/bZ (sl b))(pk:fs.pl key)(pb:b=""\/fs.pl b)(ne:b≠key):d_ (d+1) (.rows key b fs):=by
 have hd:=h.dep
 have ht:=h.t3 h3
 have hy:=Jh b
 refine⟨by simp only[Kd.dep];omega,by unfold Kd.N;exact⟨hk,hb,h.n⟩,by unfold Kd.S;exact⟨h1,h2,by omega,pk,pb,ne,h.s⟩,?_⟩
 show(aK cY::aK (sl key)::(dD b++mkT 123::(fs.tk++[mkT 125]))).length<=15+3 * tN d
 simp only[List.length_cons,List.length_append,List.length_nil]
 omega
noncomputable def ck:Nat->Nat
 |0=>2
 |d+1=>3 * ck d+6
noncomputable def CW (K:W.Frag):Sp:=λvs H Q _=>∃a b ns n,vs=[.ref a,.ref b]/\G0 K H a b ns n/\n<=1000000000000/\
 ∀(v:V) (k:Kd) (H':Hp),SB b H H'->H' b=some (.lst [.int (n+1)])->KA H' v k->i_ k->Q v H'
noncomputable def tO (K:W.Frag) (d:Nat):Sp:=λvs H Q _=>∃a b ns n,vs=[.ref a,.ref b,.int d]/\G0 K H a b ns n/\n+ck d<=1000000000000/\
 ∀(v:V) (k:Kd) (n':Int) (H':Hp),SB b H H'->H' b=some (.lst [.int n'])->n<=n'->n'<=n+ck d->KA H' v k->d_ d k->Q v H'
noncomputable def Yb (K:W.Frag) (d:Nat):Sp:=λvs H Q _=>∃a b ns n,∃m:Nat,vs=[.ref a,.ref b,.int m,.int d]/\m<=12/\G0 K H a b ns n/\n+1+m * ck d<=1000000000000/\
 ∀(t:Addr) (xs:List V) (fs:Fs) (n':Int) (H':Hp),SB b H H'->H' b=some (.lst [.int n'])->n<=n'->n'<=n+1+m * ck d->H' t=some (.tup xs)->FA H' xs fs->fs.names.Nodup->fs.names.length=m->fs.names.Pairwise sle->cU d fs->Q (.ref t) H'
noncomputable def Yc (K:W.Frag) (d:Nat):Sp:=λvs H Q _=>∃a b ns n,∃m:Nat,vs=[.ref a,.ref b,.int m,.int d]/\1<=m/\m<=3/\G0 K H a b ns n/\n+5+3 * ck d<=1000000000000/\
 ∀(v:V) (k:Kd) (n':Int) (H':Hp),SB b H H'->H' b=some (.lst [.int n'])->n<=n'->n'<=n+5+3 * ck d->KA H' v k->d_ (d+1) k->Q v H'
theorem Ji {ss:List Str}{z:Int}(h0:0<=z)(h1:z<ss.length):∃x:Str,cM (ss.map V.str) z=some (.str x)/\ss[z.toNat]? =some x:=by
 obtain⟨j,rfl⟩:∃j:Nat,z=(j:Int):=⟨z.toNat,by omega⟩
 exact⟨ss[j]'(by omega),gZ (by rw[List.getElem?_map,List.getElem?_eq_getElem (by omega)];rfl),by rw[Int.toNat_natCast];exact List.getElem?_eq_getElem (by omega)⟩
theorem Fs.Yd:∀{fs:Fs}{x:Str}{k:Kd}{j:Nat}{y:Str}{q:Kd},fs.at j=some (y,q)->(fs.snoc x k).at j=some (y,q)
 | .nil,_,_,_,_,_,h=>by cases h
 | .cons _ _ _,_,_,0,_,_,h=>h
 | .cons _ _ r,x,k,j+1,y,q,h=>Fs.Yd (fs:=r) (j:=j) h
theorem Fs.Ye:∀{fs:Fs}{x:Str}{k:Kd},(fs.snoc x k).at fs.names.length=some (x,k)
 | .nil,_,_=>rfl
 | .cons _ _ r,x,k=>Fs.Ye (fs:=r)
theorem tQ {x:Str}(h:bZ (sl x)):x≠"":=λe=>h.1 (by rw[e];decide +kernel)
theorem Yg:bR ["_law_script","_law_at"] ["_law_script","_law_at"] (aN (top 36)):=cA
theorem Yh (T:Tb mg)(fO:Dn K mg "_law_plain" ["_law_script","_law_at"] (top 36) qX qY)(bA:Dn K mg "_law_next" ["_law_script","_law_at"] (top 34) eU eV)(fJ:aB P w K mg base aO (1) eU eV ["_law_script","_law_at"] (lZ K)):aB P w K mg base aO (2) qX qY ["_law_script","_law_at"] (CW K):=by
 refine fO.F.ok Yg (λvs H Q E h=>?_) (λcdv A outer s H vs Q E hr h=>?_)
 . obtain⟨a,b,ns,n,rfl,_⟩:=h
   rfl
 obtain⟨a,b,ns,n,rfl,g,hn,q⟩:=h
 have nd:=Yg.nd
 refine⟨_,(aC (bF (bh cj (aF cC (aV fJ (hr.mono (by omega)) rfl bA.m bA.F.kp bA.b .nil aY (aj (pv 0) (aj (pv 1) ak))) au) au (bw _)) (aH (aW (bH (aj aD ak)))) bG)
  (aH (aW (bH (aj aD ak))))),?_⟩
 refine⟨_,rfl,_,rfl,a,b,ns,n,rfl,g,hn,λr H1 r0 r1 s1 h1=>?_⟩
 refine⟨_,_,rfl,rfl,(by show(0:Int)<_;decide),rfl,_,rfl,?_⟩
 have fin:∀(x:Str) (k:Kd),(∀(p:Addr) (H2:Hp),H2 p=some (.tup [.str x])->KA H2 (.ref p) k)->i_ k->∀p,H1 p=none->Q (.ref p) (upd H1 p (.tup [.str x])):=λx k hk hp p hpn=>
  q _ k _ (s1.trans (SB.new hpn)) (by rw[aq (aJ h1 hpn)];exact h1) (hk p _ aG) hp
 refine bN (λc=>?_) (λc=>?_)
 . exact⟨cJ,λp hp=>fin _ .num (λp H2 e=>by unfold KA;exact⟨p,rfl,e⟩) trivial p hp⟩
 . exact⟨cJ,λp hp=>fin _ .bQ (λp H2 e=>by unfold KA;exact⟨p,rfl,e⟩) trivial p hp⟩
theorem Yi:bR ["_law_script","_law_at","_law_many","_law_deep","_law_names_here"] ["_law_script","_law_at","_law_many","_law_deep"] (aN (top 37)):=cA
theorem ahv (d:Nat)(T:Tb mg)(jQ:Dn K mg "_law_fields" ["_law_script","_law_at","_law_many","_law_deep"] (top 37) CZ C_)(dN:Dn K mg "_law_names" ["_law_script","_law_at","_law_many"] (top 35) nU nW)(tU:aB P w K mg base aO (2) nU nW ["_law_script","_law_at","_law_many"] (za K))(dO:Dn K mg "_law_kind" ["_law_script","_law_at","_law_deep"] (top 39) lE lF)(tV:aB P w K mg base aO (2 * d+4) lE lF ["_law_script","_law_at","_law_deep"] (tO K d)):aB P w K mg base aO (2 * d+5) CZ C_ ["_law_script","_law_at","_law_many","_law_deep"] (Yb K d):=by
 refine jQ.F.ok Yi (λvs H Q E h=>?_) (λcdv A outer s H vs Q E hr h=>?_)
 . obtain⟨a,b,ns,n,m,rfl,_⟩:=h
   rfl
 obtain⟨a,b,ns,n,m,rfl,hm,g,hn,q⟩:=h
 have nd:=Yi.nd
 refine⟨_,(aC (aQ (i:=4) nd rfl (Or.inl rfl) (aV tU (hr.mono (by omega)) rfl dN.m dN.F.kp dN.b .nil aY (aj (pv 0) (aj (pv 1) (aj (pv 2) ak)))))
  (aH (aW (uI Ao (by rfl) T.BK boot_tuple (aj (adQ (g:=(gA 0)) (tt:=Ar) (te:=(wK (iC (jo 0) (iC (wM _ _ _ (iC (jo 1) (iC (jo 2) (iC (jo 4) gY)))) gY)))) (own:=["_law_name"]) rfl (jr.of (N:=["_law_script","_law_at","_law_many","_law_deep","_law_names_here"]) (sc:=aN (top 37)) rfl rfl rfl (by decide +kernel)) (RQ (pv 4)) (λ_ _ _ _ _=>(dw (i:=0) (show(["_law_name","_law_script","_law_at","_law_many","_law_deep","_law_names_here"]:List Str).Nodup by decide +kernel) rfl (Or.inl rfl) (.inr rfl))) (λ_ _ _ _ _=>T3) (λ_ _ _ _ _=>(bH (aj (pv 0) (aj (aV tV (hr.mono (by omega)) rfl dO.m dO.F.kp dO.b .nil aY (aj (pv 1) (aj (pv 2) (aj (pv 4) ak)))) ak))))) ak))))),?_⟩
 have hmk:0<=(m:Int) * ck d:=Int.mul_nonneg (by omega) (by omega)
 have hn2:n<=1000000000000:=by omega
 refine⟨_,rfl,_,rfl,_,rfl,a,b,ns,n,m,rfl,by omega,g,hn2,λp ss H1 s1 h1 hpb hp hl hnd hsr hnm'=>?_⟩
 refine⟨_,rfl,p,rfl,⟨_,aL.of hp⟩,λi m' ys H'=>m'=ss.length - i/\i<=ss.length/\∃(fs:Fs) (n':Int),SB b H H'/\H' b=some (.lst [.int n'])/\n<=n'/\n'<=n+1+i * ck d/\H' p=some (.lst (ss.map V.str))/\FA H' ys fs/\fs.names=ss.take i/\ys.length=i/\cU d fs,
  ⟨_,rfl,Nat.zero_le _,.nil,n+1,s1,h1,by omega,by omega,hp,by unfold FA;rfl,by simp[Fs.names],rfl,cU.nil d⟩,?_⟩
 rintro i m' ys H' ⟨rfl,hile,fs,n',sb,hb',z1,z2,hp',hf,hnm,hy,hW⟩
 by_cases hi:i<ss.length
 . refine .inr ⟨⟨_,.str ss[i],aL.of hp',by rw[List.getElem?_map,List.getElem?_eq_getElem hi];rfl⟩,wU (by omega),λx lY y=>?_⟩
   obtain⟨rfl,y⟩:=y
   have hx:=y _ (aL.of hp')
   have ex:x=.str ss[i]:=by
    rw[List.getElem?_map,List.getElem?_eq_getElem hi] at hx
    exact(Option.some.inj hx).symm
   subst ex
   refine⟨rfl,yes (bT ?_)⟩
   have hck:((i:Int)+1) * ck d<=(m:Int) * ck d:=Int.mul_le_mul_of_nonneg_right (by omega) (by omega)
   rw[Int.add_mul,Int.one_mul] at hck
   refine⟨_,rfl,_,rfl,_,rfl,_,rfl,a,b,ns,n',rfl,g.go sb hb' z1,by omega,λv k n'' H2 s2 h2 y1 y2 hk zf=>?_⟩
   refine⟨bC,λt ht=>?_⟩
   have hne:t≠b:=λz=>by rw[z,h2] at ht;cases ht
   have Yj:Tu H2 (upd H2 t (.tup [.str ss[i],v])):=Tu.of (λc o h=>by rw[aq (aJ h ht)];exact h)
   have tu:Tu lY (upd H2 t (.tup [.str ss[i],v])):=(s2.tu hb').trans Yj
   refine⟨_,Nat.sub_lt_sub_left hi (Nat.lt_succ_self i),rfl,hi,fs.snoc ss[i] k,n'',sb.trans (s2.trans (SB.new ht)),by rw[aq (Ne.symm hne)];exact h2,by omega,?_,?_,FA.snoc aG (KA.mono Yj k hk) fs (FA.mono tu fs hf),?_,?_,hW.snoc (hnm' _ (List.getElem_mem hi)) zf⟩
   . have e:((i+1:Nat):Int) * ck d=(i:Int) * ck d+ck d:=by
      rw[Int.natCast_add,Int.add_mul];simp
     rw[e];omega
   . have h3:=s2 p _ hpb hp'
     rw[aq (aJ h3 ht)];exact h3
   . rw[Fs.Hh,hnm,List.take_succ,List.getElem?_eq_getElem hi];rfl
   . rw[List.length_append,hy];rfl
 . have ei:i=m:=by omega
   subst ei
   refine .inl ⟨⟨_,aL.of hp',by rw[List.length_map];omega⟩,λp' hp2=>?_⟩
   refine⟨p',ys,rfl,.inl ⟨aL.of aG,λt ht=>?_⟩⟩
   have ahx:p'≠b:=λz=>by rw[z,hb'] at hp2;cases hp2
   have hb2:upd H' p' (.lst ys) b=some (.lst [.int n']):=by rw[aq (Ne.symm ahx)];exact hb'
   have tu:Tu H' (upd (upd H' p' (.lst ys)) t (.tup ys)):=λc xs h=>by
    rw[aq (aJ (show upd H' p' (.lst ys) c=some (.tup xs) by rw[aq (aJ h hp2)];exact h) ht),aq (aJ h hp2)];exact h
   have hst:ss.take i=ss:=by rw[<-hl,List.take_length]
   refine q t ys fs n' _ (sb.trans ((SB.new hp2).trans (SB.new ht))) (by rw[aq (aJ hb2 ht)];exact hb2) z1 (by omega) aG (FA.mono tu fs hf) ?_ ?_ ?_ hW
   . rw[hnm,hst];exact hnd
   . rw[hnm,hst];exact hl
   . rw[hnm,hst];exact hsr
noncomputable def σR (a b:Addr) (m d:Nat) (p:Addr) (r:Int) (pf:Addr) (x y z:Option V):L2.St:=
 [some (.ref a),some (.ref b),some (.int m),some (.int d),some (.ref p),some (.int r),some (.int (r % m)),some (.int (r / m % (m+1))),some (.ref pf),x,y,z]
theorem Yk:bR ["_law_script","_law_at","_law_many","_law_deep","_law_names_here","_law_m","_law_lead","_law_by","_law_fields_here","_law_k","_law_kind_here","_law_name"] ["_law_script","_law_at","_law_many","_law_deep"] (aN (top 38)):=cA
theorem ahy (d:Nat)(T:Tb mg)(mW:Dn K mg "_law_rows_kind" ["_law_script","_law_at","_law_many","_law_deep"] (top 38) Dd Df)(dN:Dn K mg "_law_names" ["_law_script","_law_at","_law_many"] (top 35) nU nW)(tU:aB P w K mg base aO (2) nU nW ["_law_script","_law_at","_law_many"] (za K))(bA:Dn K mg "_law_next" ["_law_script","_law_at"] (top 34) eU eV)(fJ:aB P w K mg base aO (1) eU eV ["_law_script","_law_at"] (lZ K))(fO:Dn K mg "_law_plain" ["_law_script","_law_at"] (top 36) qX qY)(zj:aB P w K mg base aO (2) qX qY ["_law_script","_law_at"] (CW K))(dO:Dn K mg "_law_kind" ["_law_script","_law_at","_law_deep"] (top 39) lE lF)(tV:aB P w K mg base aO (2 * d+4) lE lF ["_law_script","_law_at","_law_deep"] (tO K d)):
 aB P w K mg base aO (2 * d+5) Dd Df ["_law_script","_law_at","_law_many","_law_deep"] (Yc K d):=by
 refine mW.F.ok Yk (λvs H Q E h=>?_) (λcdv A outer s H vs Q E hr h=>?_)
 . obtain⟨a,b,ns,n,m,rfl,_⟩:=h
   rfl
 obtain⟨a,b,ns,n,m,rfl,hm1,hm,g,hn,q⟩:=h
 have nd:=Yk.nd
 refine⟨_,(aC (aQ (i:=4) nd rfl (Or.inl rfl) (aV tU (hr.mono (by omega)) rfl dN.m dN.F.kp dN.b .nil aY (aj (pv 0) (aj (pv 1) (aj (pv 2) ak)))))
  (aC (aQ (i:=5) nd rfl (Or.inl rfl) (aV fJ (hr.mono (by omega)) rfl bA.m bA.F.kp bA.b .nil aY (aj (pv 0) (aj (pv 1) ak))))
  (aC (aQ (i:=6) nd rfl (Or.inl rfl) (aF cC (pv 5) (pv 2)))
  (aC (aQ (i:=7) nd rfl (Or.inl rfl) (aF cC (aF dR (pv 5) (pv 2)) (aF gK (pv 2) au)))
  (aC (aQ (i:=8) nd rfl (Or.inl rfl) (bJ ak))
  (aC (lQ PassesOwn.never rfl (wG rfl T.uV (aj (pv 2) ak)) (dw (i:=9) nd rfl (Or.inl rfl)) (aC (aQ (i:=10) nd rfl (Or.inl rfl) (aV tV (hr.mono (by omega)) rfl dO.m dO.F.kp dO.b .nil aY (aj (pv 0) (aj (pv 1) (aj (pv 3) ak)))))
  (aC (bF (PW.pt (pJ (bh cj (pv 9) (pv 6) (bw _)) (rJ (bh cj (pv 9) (pv 7) (bw _))))) (aH (aQ (i:=10) nd rfl (Or.inl rfl) (aV zj (hr.mono (by omega)) rfl fO.m fO.F.kp fO.b .nil aY (aj (pv 0) (aj (pv 1) ak))))) bG)
  (aH (gW (iZ PySem.F.plainAttrs_list PySem.F.slot_list_append PySem.F.type_list_append k_ (pv 8) (aj (bH (aj (aU dU (pv 4) (pv 9) (λ_ _=>rfl)) (aj (pv 10) ak))) ak)))))))
  (aC (aQ (i:=11) nd rfl (Or.inl rfl) aD)
  (aC (bF (PW.pt (lO (bh uG (pv 7) (pv 2) (bw _)) (oA (bh wI (pv 7) (pv 6) (bw _))))) (aH (aQ (i:=11) nd rfl (Or.inl rfl) (aU dU (pv 4) (pv 7) (λ_ _=>rfl)))) bG)
  (aH (aW (bH (aj aD (aj (aU dU (pv 4) (pv 6) (λ_ _=>rfl)) (aj (pv 11) (aj (uI Ao (by rfl) T.BK boot_tuple (aj (pv 8) ak)) ak))))))))))))))),?_⟩
 refine⟨_,rfl,_,rfl,_,rfl,a,b,ns,n,m,rfl,by omega,g,by omega,λp ss H1 s1 h1 hpb hp hl hnd hsr Jj=>?_⟩
 refine⟨_,rfl,_,rfl,a,b,ns,n+1,rfl,g.go s1 h1 (by omega),by omega,λr H2 r0 r1 s2 h2=>?_⟩
 have hp2:H2 p=some (.lst (ss.map V.str)):=s2 p _ hpb hp
 have Yl:SB b H H2:=s1.trans s2
 refine⟨_,rfl,_,rfl,_,_,rfl,rfl,by omega,?_⟩
 refine⟨_,rfl,_,rfl,_,_,rfl,rfl,⟨by omega,by omega⟩,_,rfl,_,_,rfl,rfl,_,_,rfl,rfl,by omega,?_⟩
 refine⟨um,λpf hpf=>?_⟩
 have kI:pf≠b:=λz=>by rw[z,h2] at hpf;cases hpf
 have hpp:p≠pf:=λz=>by rw[z,hpf] at hp2;cases hp2
 have ahz:∀o,H pf=some o->False:=λo ho=>by
  have:=Yl pf o kI ho
  rw[hpf] at this;cases this
 have em:Int.toNat (m:Int)=m:=by omega
 refine⟨_,rfl,_,rfl,by omega,by omega,uD (n:=Int.toNat (m:Int)) (λi σ H'=>∃(x y z:Option V) (n':Int) (ys:List V) (fs:Fs),σ=σR a b m d p r pf x y z/\SB b H H'/\H' b=some (.lst [.int n'])/\n<=n'/\n'<=n+2+i * (ck d+1)/\
  H' p=some (.lst (ss.map V.str))/\H' pf=some (.lst ys)/\FA H' ys fs/\ys.length=i/\cU d fs/\fs.names=ss.take i/\∀j:Nat,j<i->((j:Int)=r % m\/(j:Int)=r / m % (m+1))->∃y q,fs.at j=some (y,q)/\i_ q) ?_ ?_ ?_⟩
 . refine⟨_,_,_,n+1+1,[],.nil,rfl,Yl.trans (SB.new hpf),by rw[aq (Ne.symm kI)];exact h2,by omega,by omega,by rw[aq hpp];exact hp2,aG,by unfold FA;rfl,rfl,cU.nil d,rfl,λj hj=>absurd hj (by omega)⟩
 . rintro i σ H' hi ⟨x,y,z,n',ys,fs,rfl,sb,hb',z1,z2,hp',hf',hfa,hy,hW,hnm,hpl⟩
   rw[em] at hi
   have hi3:(i:Int)<=2:=by omega
   have hck:(i:Int) * (ck d+1)<=2 * (ck d+1):=Int.mul_le_mul_of_nonneg_right hi3 (by omega)
   have e1:((i+1:Nat):Int) * (ck d+1)=(i:Int) * (ck d+1)+(ck d+1):=by
    rw[Int.natCast_add,Int.add_mul];simp
   have hlen:ys.length<sizeLine:=wU (by omega)
   have hss:∃q:Str,cM (ss.map V.str) ((0:Int)+(i:Int))=some (.str q)/\ss[((0:Int)+(i:Int)).toNat]? =some q:=Ji (by omega) (by omega)
   obtain⟨nm,Jk,zm⟩:=hss
   have zm:ss[i]? =some nm:=by
    rw[show((0:Int)+(i:Int)).toNat=i by omega] at zm;exact zm
   have hfl:fs.names.length=i:=by rw[<-FA.len fs hfa];exact hy
   have next:∀(x' y' z':Option V) (v:V) (k:Kd) (n2:Int) (H3:Hp) (t:Addr),SB b H' H3->H3 b=some (.lst [.int n2])->n'<=n2->n2<=n'+(ck d+1)->KA H3 v k->d_ d k->(((i:Int)=r % m\/(i:Int)=r / m % (m+1))->i_ k)->H3 t=none->
    ∃(x y z:Option V) (n':Int) (ys':List V) (fs:Fs),σR a b m d p r pf x' y' z'=σR a b m d p r pf x y z/\SB b H (upd (upd H3 t (.tup [.str nm,v])) pf (.lst (ys++[.ref t])))/\(upd (upd H3 t (.tup [.str nm,v])) pf (.lst (ys++[.ref t]))) b=some (.lst [.int n'])/\n<=n'/\
     n'<=n+2+((i+1:Nat):Int) * (ck d+1)/\(upd (upd H3 t (.tup [.str nm,v])) pf (.lst (ys++[.ref t]))) p=some (.lst (ss.map V.str))/\(upd (upd H3 t (.tup [.str nm,v])) pf (.lst (ys++[.ref t]))) pf=some (.lst ys')/\
     FA (upd (upd H3 t (.tup [.str nm,v])) pf (.lst (ys++[.ref t]))) ys' fs/\ys'.length=i+1/\cU d fs/\fs.names=ss.take (i+1)/\∀j:Nat,j<i+1->((j:Int)=r % m\/(j:Int)=r / m % (m+1))->∃y q,fs.at j=some (y,q)/\i_ q:=by
    intro x' y' z' v k n2 H3 t s3 h3 w1 w2 hk zf hkp ht
    have Ym:H3 pf=some (.lst ys):=s3 pf _ kI hf'
    have hp3:H3 p=some (.lst (ss.map V.str)):=s3 p _ hpb hp'
    have htf:t≠pf:=λz=>by rw[z,Ym] at ht;cases ht
    have htb:t≠b:=λz=>by rw[z,h3] at ht;cases ht
    have htp:t≠p:=λz=>by rw[z,hp3] at ht;cases ht
    have yw:Tu H3 (upd (upd H3 t (.tup [.str nm,v])) pf (.lst (ys++[.ref t]))):=λc xs h=>by
     rw[aq (fW h Ym (by intro z;cases z)),aq (aJ h ht)];exact h
    have jh:upd (upd H3 t (.tup [.str nm,v])) pf (.lst (ys++[.ref t])) t=some (.tup [.str nm,v]):=by rw[aq htf];exact aG
    refine⟨x',y',z',n2,ys++[.ref t],fs.snoc nm k,rfl,λc o hc hh=>?_,?_,by omega,by rw[e1];omega,?_,aG,FA.snoc jh (KA.mono yw k hk) fs (FA.mono ((s3.tu hb').trans yw) fs hfa),by rw[List.length_append,hy];rfl,hW.snoc (Jj _ (List.mem_of_getElem? zm)) zf,by rw[Fs.Hh,hnm,List.take_succ,zm];rfl,λj hj hor=>?_⟩
    . have q1:=s3 c o hc (sb c o hc hh)
      by_cases e:c=pf
      . subst e;exact(ahz o hh).elim
      . rw[aq e,aq (aJ q1 ht)];exact q1
    . rw[aq (Ne.symm kI),aq (Ne.symm htb)];exact h3
    . rw[aq hpp,aq (Ne.symm htp)];exact hp3
    . by_cases e:j<i
      . obtain⟨y,q,e1,e2⟩:=hpl j e hor
        exact⟨y,q,Fs.Yd e1,e2⟩
      . have:j=i:=by omega
        subst this
        exact⟨nm,k,by have:=Fs.Ye (fs:=fs) (x:=nm) (k:=k);rwa [hfl] at this,hkp hor⟩
   refine⟨_,rfl,_,rfl,_,rfl,a,b,ns,n',rfl,g.go sb hb' z1,by omega,λv k n2 H3 s3 h3 w1 w2 hk zf=>?_⟩
   refine⟨_,rfl,_,rfl,rfl,_,rfl,?_⟩
   refine bN (λc=>bT ?_) (λcL=>⟨_,rfl,_,rfl,rfl,_,rfl,bN (λc=>?_) (λc=>?_)⟩)
   . refine⟨_,rfl,_,rfl,a,b,ns,n2,rfl,(g.go sb hb' z1).go s3 h3 w1,by omega,λv' k' H4 s4 h4 hk' zp=>?_⟩
     have mY:=s3.trans s4
     refine⟨_,rfl,.inl ⟨rfl,_,aL.of (mY pf _ kI hf')⟩,_,rfl,_,rfl,p,_,_,_,rfl,rfl,aL.of (mY p _ hpb hp'),Jk,_,rfl,bC,λt ht=>?_⟩
     refine⟨pf,_,_,rfl,rfl,by rw[aq (aJ (mY pf _ kI hf') ht)];exact mY pf _ kI hf',hlen,?_⟩
     exact next _ _ _ v' k' _ H4 t mY h4 (by omega) (by omega) hk' (d_.plain zp) (λ_=>zp) ht
   . refine⟨_,rfl,_,rfl,a,b,ns,n2,rfl,(g.go sb hb' z1).go s3 h3 w1,by omega,λv' k' H4 s4 h4 hk' zp=>?_⟩
     have mY:=s3.trans s4
     refine⟨_,rfl,.inl ⟨rfl,_,aL.of (mY pf _ kI hf')⟩,_,rfl,_,rfl,p,_,_,_,rfl,rfl,aL.of (mY p _ hpb hp'),Jk,_,rfl,bC,λt ht=>?_⟩
     refine⟨pf,_,_,rfl,rfl,by rw[aq (aJ (mY pf _ kI hf') ht)];exact mY pf _ kI hf',hlen,?_⟩
     exact next _ _ _ v' k' _ H4 t mY h4 (by omega) (by omega) hk' (d_.plain zp) (λ_=>zp) ht
   . refine⟨_,rfl,.inl ⟨rfl,_,aL.of (s3 pf _ kI hf')⟩,_,rfl,_,rfl,p,_,_,_,rfl,rfl,aL.of (s3 p _ hpb hp'),Jk,_,rfl,bC,λt ht=>?_⟩
     refine⟨pf,_,_,rfl,rfl,by rw[aq (aJ (s3 pf _ kI hf') ht)];exact s3 pf _ kI hf',hlen,?_⟩
     refine next _ _ _ v k _ H3 t s3 h3 (by omega) (by omega) hk zf (λhor=>?_) ht
     exact(by
      rcases hor with e|e
      . exact absurd (decide_eq_true (show V.int ((0:Int)+(i:Int))=V.int (r % m) by rw[<-e];congr 1;omega)) cL
      . exact absurd (decide_eq_true (show V.int ((0:Int)+(i:Int))=V.int (r / m % (m+1)) by rw[<-e];congr 1;omega)) c)
 . rintro σ H' ⟨x,y,z,n',ys,fs,rfl,sb,hb',z1,z2,hp',hf',hfa,hy,hW,hnm,hpl⟩
   rw[em] at z2 hy hpl hnm
   have e3:(m:Int) * (ck d+1)<=3 * (ck d+1):=Int.mul_le_mul_of_nonneg_right (by omega) (by omega)
   have l0:0<=r % (m:Int):=Int.emod_nonneg _ (by omega)
   have l1:r % (m:Int)<m:=Int.emod_lt_of_pos _ (by omega)
   have b0:0<=r / (m:Int) % ((m:Int)+1):=Int.emod_nonneg _ (by omega)
   obtain⟨xk,hxk,hxs⟩:=Ji (ss:=ss) l0 (by omega)
   have hnm':fs.names=ss:=by rw[hnm,<-hl,List.take_length]
   have hfn:fs.names.Nodup:=by rw[hnm'];exact hnd
   have pl:∀(z:Int) (x:Str),0<=z->z<m->(z=r % m\/z=r / m % (m+1))->ss[z.toNat]? =some x->fs.pl x:=λz x h0 h1 hor hx=>by
    obtain⟨y,q,e1,e2⟩:=hpl z.toNat (by omega) (by rw[Int.toNat_of_nonneg h0];exact hor)
    have hn2:=Fs.Hi fs z.toNat
    rw[e1,hnm',hx] at hn2
    have e3:some x=some y:=hn2
    cases e3
    exact⟨q,Fs.Ve hfn e1,e2⟩
   have plk:fs.pl xk:=pl _ _ l0 l1 (.inl rfl) hxs
   have hlen3:fs.names.length<=3:=by rw[hnm',hl];omega
   have Jl:=Jj _ (List.mem_of_getElem? hxs)
   have ahC:fs.names.Pairwise sle:=by rw[hnm'];exact hsr
   have fin:∀(nm:Str),(nm=""\/fs.pl nm)->(nm=""\/bZ (sl nm))->nm≠xk->∀(t:Addr),H' t=none->∀v:Addr,upd H' t (.tup ys) v=none->Q (.ref v) (upd (upd H' t (.tup ys)) v (.tup [.str "rows",.str xk,.str nm,.ref t])):=by
    intro nm CG hbn hne t ht v hv
    have hvt:v≠t:=λz=>by rw[z,aG] at hv;cases hv
    have tu:Tu H' (upd (upd H' t (.tup ys)) v (.tup [.str "rows",.str xk,.str nm,.ref t])):=λc xs h=>by
     have e:upd H' t (.tup ys) c=some (.tup xs):=by rw[aq (aJ h ht)];exact h
     rw[aq (aJ e hv)];exact e
    have hb2:upd H' t (.tup ys) b=some (.lst [.int n']):=by rw[aq (aJ hb' ht)];exact hb'
    refine q (.ref v) (.rows xk nm fs) n' _ (sb.trans ((SB.new ht).trans (SB.new hv))) (by rw[aq (aJ hb2 hv)];exact hb2) z1 (by omega) ?_ (d_.rows hW hlen3 ahC hfn Jl hbn plk CG hne)
    unfold KA
    exact⟨v,t,ys,rfl,aG,by rw[aq (Ne.symm hvt)];exact aG,FA.mono tu fs hfa⟩
   refine⟨_,rfl,_,rfl,_,_,rfl,rfl,_,rfl,?_⟩
   refine bN (λc=>⟨_,rfl,_,rfl,rfl,_,rfl,bN (λc2=>?_) (λc2=>?_)⟩) (λc=>aZ ?_)
   . have c':r / (m:Int) % ((m:Int)+1)<m:=of_decide_eq_true c
     obtain⟨nm,ahE,Jm⟩:=Ji (ss:=ss) b0 (by omega)
     have hne:nm≠xk:=λe=>by
      subst e
      have a1:=(List.getElem?_eq_some_iff.mp Jm)
      have a2:=(List.getElem?_eq_some_iff.mp hxs)
      obtain⟨i1,e1⟩:=a1
      obtain⟨i2,e2⟩:=a2
      have:=(List.getElem_inj hnd).mp (e1.trans e2.symm)
      have z:r / (m:Int) % ((m:Int)+1)=r % (m:Int):=by omega
      have c2':decide (V.int (r / (m:Int) % ((m:Int)+1))=V.int (r % (m:Int)))=true:=by rw[z];exact decide_eq_true rfl
      first|exact absurd c2' c2|(rw[c2'] at c2;exact absurd c2 (by decide))
     refine⟨_,rfl,_,rfl,p,_,_,_,rfl,rfl,aL.of hp',ahE,?_⟩
     exact⟨_,rfl,_,rfl,p,_,_,_,rfl,rfl,aL.of hp',hxk,_,rfl,_,rfl,pf,ys,rfl,.inl ⟨aL.of hf',λt ht=>⟨gw,λv hv=>fin nm (.inr (pl _ _ b0 c' (.inr rfl) Jm)) (.inr (Jj _ (List.mem_of_getElem? Jm))) hne t ht v hv⟩⟩⟩
   . exact⟨_,rfl,_,rfl,p,_,_,_,rfl,rfl,aL.of hp',hxk,_,rfl,_,rfl,pf,ys,rfl,.inl ⟨aL.of hf',λt ht=>⟨gw,λv hv=>fin _ (.inl rfl) (.inl rfl) (tQ Jl).symm t ht v hv⟩⟩⟩
   . exact⟨_,rfl,_,rfl,p,_,_,_,rfl,rfl,aL.of hp',hxk,_,rfl,_,rfl,pf,ys,rfl,.inl ⟨aL.of hf',λt ht=>⟨gw,λv hv=>fin _ (.inl rfl) (.inl rfl) (tQ Jl).symm t ht v hv⟩⟩⟩
theorem Dg:bR ["_law_script","_law_at","_law_deep","_law_m"] ["_law_script","_law_at","_law_deep"] (aN (top 39)):=cA
theorem ahF (T:Tb mg)(dO:Dn K mg "_law_kind" ["_law_script","_law_at","_law_deep"] (top 39) lE lF)(bA:Dn K mg "_law_next" ["_law_script","_law_at"] (top 34) eU eV)(fJ:aB P w K mg base aO (1) eU eV ["_law_script","_law_at"] (lZ K))(fO:Dn K mg "_law_plain" ["_law_script","_law_at"] (top 36) qX qY)(zj:aB P w K mg base aO (2) qX qY ["_law_script","_law_at"] (CW K)):aB P w K mg base aO (2 * 0+4) lE lF ["_law_script","_law_at","_law_deep"] (tO K 0):=by
 refine dO.F.ok Dg (λvs H Q E h=>?_) (λcdv A outer s H vs Q E hr h=>?_)
 . obtain⟨a,b,ns,n,rfl,_⟩:=h
   rfl
 obtain⟨a,b,ns,n,rfl,g,hn,q⟩:=h
 have nd:=Dg.nd
 have hck:ck 0=2:=rfl
 rw[hck] at hn q
 refine⟨_,(aC (aQ (i:=3) nd rfl (Or.inl rfl) (aV fJ (hr.mono (by omega)) rfl bA.m bA.F.kp bA.b .nil aY (aj (pv 0) (aj (pv 1) ak))))
  (aC (bF (PW.pt (pJ (bh R_ (pv 2) au (bw _)) (rJ adR))) (aH (aW (aV zj (hr.mono (by omega)) rfl fO.m fO.F.kp fO.b .nil aY (aj (pv 0) (aj (pv 1) ak))))) bG) acv)),?_⟩
 refine⟨_,rfl,_,rfl,a,b,ns,n,rfl,g,by omega,λr H1 r0 r1 s1 h1=>?_⟩
 refine⟨_,rfl,_,_,rfl,rfl,_,rfl,?_⟩
 refine bN (λc=>bT ?_) (λc=>(c (by decide)).elim)
 refine⟨_,rfl,_,rfl,a,b,ns,n+1,rfl,g.go s1 h1 (by omega),by omega,λv k H2 s2 h2 hk hp=>?_⟩
 exact q v k (n+1+1) H2 (s1.trans s2) h2 (by omega) (by omega) hk (d_.plain hp)
theorem ahG (d:Nat)(T:Tb mg)(dO:Dn K mg "_law_kind" ["_law_script","_law_at","_law_deep"] (top 39) lE lF)(bA:Dn K mg "_law_next" ["_law_script","_law_at"] (top 34) eU eV)(fJ:aB P w K mg base aO (1) eU eV ["_law_script","_law_at"] (lZ K))(fO:Dn K mg "_law_plain" ["_law_script","_law_at"] (top 36) qX qY)(zj:aB P w K mg base aO (2) qX qY ["_law_script","_law_at"] (CW K))(jQ:Dn K mg "_law_fields" ["_law_script","_law_at","_law_many","_law_deep"] (top 37) CZ C_)(Yn:aB P w K mg base aO (2 * d+5) CZ C_ ["_law_script","_law_at","_law_many","_law_deep"] (Yb K d))(mW:Dn K mg "_law_rows_kind" ["_law_script","_law_at","_law_many","_law_deep"] (top 38) Dd Df)(ahH:aB P w K mg base aO (2 * d+5) Dd Df ["_law_script","_law_at","_law_many","_law_deep"] (Yc K d))
 (tV:aB P w K mg base aO (2 * d+4) lE lF ["_law_script","_law_at","_law_deep"] (tO K d)):aB P w K mg base aO (2 * (d+1)+4) lE lF ["_law_script","_law_at","_law_deep"] (tO K (d+1)):=by
 refine dO.F.ok Dg (λvs H Q E h=>?_) (λcdv A outer s H vs Q E hr h=>?_)
 . obtain⟨a,b,ns,n,rfl,_⟩:=h
   rfl
 obtain⟨a,b,ns,n,rfl,g,hn,q⟩:=h
 have nd:=Dg.nd
 have hck:(ck (d+1):Int)=3 * ck d+6:=by
  have:ck (d+1)=3 * ck d+6:=rfl
  omega
 rw[hck] at hn
 refine⟨_,(aC (aQ (i:=3) nd rfl (Or.inl rfl) (aV fJ (hr.mono (by omega)) rfl bA.m bA.F.kp bA.b .nil aY (aj (pv 0) (aj (pv 1) ak))))
  (aC (bF (PW.pt (pJ (bh R_ (pv 2) au (bw _)) (rJ (bh uG (aF cC (pv 3) au) au (bw _))))) (aH (aW (aV zj (hr.mono (by omega)) rfl fO.m fO.F.kp fO.b .nil aY (aj (pv 0) (aj (pv 1) ak))))) bG)
  (aC (bF (bh uG (aF cC (pv 3) au) au (bw _)) (aH (aW (bH (aj aD (aj (aV Yn (hr.mono (by omega)) rfl jQ.m jQ.F.kp jQ.b .nil aY (aj (pv 0) (aj (pv 1) (aj (aF cC (aF dR (pv 3) au) au) (aj (aF lU (pv 2) au) ak))))) ak))))) bG)
  (aC (bF (bh uG (aF cC (pv 3) au) au (bw _)) (aH (aW (aV ahH (hr.mono (by omega)) rfl mW.m mW.F.kp mW.b .nil aY (aj (pv 0) (aj (pv 1) (aj (aF gK au (aF cC (aF dR (pv 3) au) au)) (aj (aF lU (pv 2) au) ak))))))) bG)
  (aC (bF (bh cj (aF cC (pv 3) au) au (bw _)) (aH (aW (bH (aj aD (aj (aV tV (hr.mono (by omega)) rfl dO.m dO.F.kp dO.b .nil aY (aj (pv 0) (aj (pv 1) (aj (aF lU (pv 2) au) ak)))) ak))))) bG)
  (aH (aW (bH (aj aD (aj (aV Yn (hr.mono (by omega)) rfl jQ.m jQ.F.kp jQ.b .nil aY (aj (pv 0) (aj (pv 1) (aj (aF gK au (aF cC (aF dR (pv 3) au) au)) (aj (aF lU (pv 2) au) ak))))) ak)))))))))),?_⟩
 refine⟨_,rfl,_,rfl,a,b,ns,n,rfl,g,by omega,λr H1 r0 r1 s1 h1=>?_⟩
 have g1:=g.go s1 h1 (by omega)
 have e2:(((d+1:Nat):Int)) - 1=(d:Int):=by omega
 have e0:(if decide ((((d+1:Nat):Int))<=0)=true then True else False)=False:=by
  rw[if_neg (by rw[decide_eq_true_iff];omega)]
 refine⟨_,rfl,_,_,rfl,rfl,_,rfl,bN (λc=>?_) (λc=>?_)⟩
 . exact absurd (of_decide_eq_true c) (by omega)
 refine⟨_,rfl,_,_,rfl,rfl,(by show(0:Int)<_;decide),_,_,rfl,rfl,_,rfl,bN (λc1=>?_) (λc1=>?_)⟩
 . refine⟨_,rfl,_,rfl,a,b,ns,n+1,rfl,g1,by omega,λv k H2 s2 h2 hk hp=>?_⟩
   exact q v k (n+1+1) H2 (s1.trans s2) h2 (by omega) (by rw[hck];omega) hk (d_.plain hp)
 refine⟨_,rfl,_,_,rfl,rfl,(by show(0:Int)<_;decide),_,_,rfl,rfl,_,rfl,bN (λc2=>?_) (λc2=>?_)⟩
 . obtain⟨m,hm⟩:∃m:Nat,r / 10 % 4=(m:Int):=⟨(r / 10 % 4).toNat,by omega⟩
   have Yo:(m:Int) * ck d<=3 * ck d:=Int.mul_le_mul_of_nonneg_right (by omega) (by omega)
   refine⟨_,rfl,_,rfl,_,rfl,_,_,rfl,rfl,⟨by decide,by decide⟩,_,_,rfl,rfl,(by show(0:Int)<_;decide),_,rfl,_,_,rfl,rfl,a,b,ns,n+1,m,(by show [V.ref a,V.ref b,V.int (r / 10 % 4),V.int (((d+1:Nat):Int) - 1)]=_;rw[hm,e2]),by omega,g1,by omega,λt xs fs n' H2 s2 h2 w1 w2 ht hfa hnd hl hsr hW=>?_⟩
   refine⟨bC,λv hv=>?_⟩
   have tu:Tu H2 (upd H2 v (.tup [.str "record",.ref t])):=λc ys h=>by rw[aq (aJ h hv)];exact h
   refine q (.ref v) (.bW fs) n' _ (s1.trans (s2.trans (SB.new hv))) (by rw[aq (aJ h2 hv)];exact h2) (by omega) (by rw[hck];omega) ?_ (d_.bW hW (by omega) hsr hnd)
   unfold KA
   exact⟨v,t,xs,rfl,aG,tu _ _ ht,FA.mono tu fs hfa⟩
 refine⟨_,rfl,_,_,rfl,rfl,(by show(0:Int)<_;decide),_,_,rfl,rfl,_,rfl,bN (λc3=>?_) (λc3=>?_)⟩
 . obtain⟨m,hm⟩:∃m:Nat,1+r / 10 % 3=(m:Int):=⟨(1+r / 10 % 3).toNat,by omega⟩
   have Yo:(m:Int) * ck d<=3 * ck d:=Int.mul_le_mul_of_nonneg_right (by omega) (by omega)
   refine⟨_,rfl,_,rfl,_,rfl,_,_,rfl,rfl,⟨by decide,by decide⟩,_,_,rfl,rfl,(by show(0:Int)<_;decide),_,_,rfl,rfl,_,rfl,_,_,rfl,rfl,a,b,ns,n+1,m,(by show [V.ref a,V.ref b,V.int (1+r / 10 % 3),V.int (((d+1:Nat):Int) - 1)]=_;rw[hm,e2]),by omega,by omega,g1,by omega,λv k n' H2 s2 h2 w1 w2 hk hO=>?_⟩
   exact q v k n' H2 (s1.trans s2) h2 (by omega) (by rw[hck];omega) hk hO
 refine⟨_,rfl,_,_,rfl,rfl,(by show(0:Int)<_;decide),rfl,_,rfl,bN (λc4=>?_) (λc4=>?_)⟩
 . refine⟨_,rfl,_,rfl,_,rfl,_,_,rfl,rfl,a,b,ns,n+1,(by show [V.ref a,V.ref b,V.int (((d+1:Nat):Int) - 1)]=_;rw[e2]),g1,by omega,λu k n' H2 s2 h2 w1 w2 hk hO=>?_⟩
   refine⟨bC,λv hv=>?_⟩
   have tu:Tu H2 (upd H2 v (.tup [.str "tree",u])):=λc ys h=>by rw[aq (aJ h hv)];exact h
   refine q (.ref v) (.tree k) n' _ (s1.trans (s2.trans (SB.new hv))) (by rw[aq (aJ h2 hv)];exact h2) (by omega) (by rw[hck];omega) ?_ hO.tree
   unfold KA
   exact⟨v,u,rfl,aG,KA.mono tu k hk⟩
 . obtain⟨m,hm⟩:∃m:Nat,1+r / 10 % 3=(m:Int):=⟨(1+r / 10 % 3).toNat,by omega⟩
   have Yo:(m:Int) * ck d<=3 * ck d:=Int.mul_le_mul_of_nonneg_right (by omega) (by omega)
   refine⟨_,rfl,_,rfl,_,rfl,_,_,rfl,rfl,⟨by decide,by decide⟩,_,_,rfl,rfl,(by show(0:Int)<_;decide),_,_,rfl,rfl,_,rfl,_,_,rfl,rfl,a,b,ns,n+1,m,(by show [V.ref a,V.ref b,V.int (1+r / 10 % 3),V.int (((d+1:Nat):Int) - 1)]=_;rw[hm,e2]),by omega,g1,by omega,λt xs fs n' H2 s2 h2 w1 w2 ht hfa hnd hl hsr hW=>?_⟩
   refine⟨bC,λv hv=>?_⟩
   have tu:Tu H2 (upd H2 v (.tup [.str "either",.ref t])):=λc ys h=>by rw[aq (aJ h hv)];exact h
   refine q (.ref v) (.bV fs) n' _ (s1.trans (s2.trans (SB.new hv))) (by rw[aq (aJ h2 hv)];exact h2) (by omega) (by rw[hck];omega) ?_ (d_.bV hW (by omega) (by omega) hsr hnd)
   unfold KA
   exact⟨v,t,xs,rfl,aG,tu _ _ ht,FA.mono tu fs hfa⟩
theorem kind_all (T:Tb mg)(dO:Dn K mg "_law_kind" ["_law_script","_law_at","_law_deep"] (top 39) lE lF)(bA:Dn K mg "_law_next" ["_law_script","_law_at"] (top 34) eU eV)(fO:Dn K mg "_law_plain" ["_law_script","_law_at"] (top 36) qX qY)(dN:Dn K mg "_law_names" ["_law_script","_law_at","_law_many"] (top 35) nU nW)(jQ:Dn K mg "_law_fields" ["_law_script","_law_at","_law_many","_law_deep"] (top 37) CZ C_)(mW:Dn K mg "_law_rows_kind" ["_law_script","_law_at","_law_many","_law_deep"] (top 38) Dd Df):∀d:Nat,aB P w K mg base aO (2 * d+4) lE lF ["_law_script","_law_at","_law_deep"] (tO K d)
 |0=>ahF T dO bA (xR (xT T bA)) fO (Yh T fO bA (xR (xT T bA)))
 |d+1=>by
  have N:=xR (xT (P:=P) (w:=w) (base:=base) T bA)
  have Pl:=Yh T fO bA N
  have Nm:=X7 T dN bA N
  have ih:=kind_all T dO bA fO dN jQ mW d
  have Fd:=ahv d T jQ dN Nm dO ih
  have Rw:=ahy d T mW dN Nm bA N fO Pl dO ih
  exact ahG d T dO bA N fO Pl jQ Fd mW Rw ih
end Pb
namespace PySem
namespace F
theorem ahI:typeLookup (.type "list_reverseiterator") "__len__"=pure none:=by rw[typeLookup_type,builtinLookup_eq_fast];kernel_rfl
theorem ahJ:Slot "list_reverseiterator" "__length_hint__" "list_reverseiterator.__length_hint__":=
 .of (owner:="list_reverseiterator") (n:="__length_hint__") (by rw[typeLookup_type,builtinLookup_eq_fast];kernel_rfl) (by decide +kernel) (by decide +kernel) (by decide +kernel)
   (by first|exact .inl (by decide +kernel)|exact .inr (by decide +kernel)) (by rw[isSubtype_type];kernel_rfl)
end F
open PyProof.Rows
section
variable {prog:Program}{w:World}{A:Around}{E:Value->Shared->Prop}{s:Shared}
theorem ahK {I l:Addr}{items:Array Value}{Q:Value->Shared->Prop}(hh:A.handled=none)(hne:l≠I)(hn:items.size<=sizeLine)
 (hit:s.heap.IsRevIter I l ((items.size:Int) - 1)) (ht:s.heap.IsList l items) (hlt:∀b∈[I,l],b<s.heap.objs.size)
 (hQ:∀s' acc' c',Moved [s.heap.objs.size,I] (λa b=>b=a) { s with heap:=s.heap.push { cls:=.type "list",data:=.seq #[] } } s'->s'.heap.get? s.heap.objs.size=some { cls:=.type "list",data:=.seq acc' c' }->ItemsOf (λi v=>items[items.size - 1 - i]? =some v) acc' items.size->Q (.ref s.heap.objs.size) s'):
 wpAny (model prog w) A (call (.type "list") [.ref I]) Q E s:=by
 refine callType_codes (Q₁:=λobj s₁=>obj=.ref s.heap.objs.size/\s₁={ s with heap:=s.heap.push { cls:=.type "list",data:=.seq #[] } }) F.called_list (F.typeCall_list_1 _) F.entry_list_init (code_list_new _ ⟨rfl,rfl⟩) λobj s₁ h₁=>?_
 obtain⟨rfl,rfl⟩:=h₁
 have W:=(Walks.listRev (prog:=prog) (w:=w) (A:=A.in1.in1) hh I l hne items).toS
 have hSf:s.heap.objs.size ∉ [I,l]:=λhm=>Nat.lt_irrefl _ (hlt _ hm)
 have hSI:s.heap.objs.size≠I:=λe=>hSf (e ▸ List.mem_cons_self)
 have hS₁:(s.heap.push { cls:=.type "list",data:=.seq #[] }).get? s.heap.objs.size=some { cls:=.type "list",data:=.seq #[] }:=Heap.get?_push_size _ rfl
 refine⟨⟨_,hS₁,rfl⟩,F.args_list_init_2 _ _,?_⟩
 have hit₁:(s.heap.push { cls:=.type "list",data:=.seq #[] }).IsRevIter I l ((items.size:Int) - 1):=hit.at λo e=>Heap.get?_push_of_some _ e
 unfold Builtin.«list.__init__»
 dsimp only
 rw[if_neg (by decide),if_neg (show ¬[Value.ref I].length > 1 from by show ¬1 > 1;decide)]
 refine wpAny_bind (wpAny_listItems hS₁ rfl ?_)
 refine wpAny_bind (PyProof.Rows.listUpdate_at hS₁ rfl ?_ (um) (by show 0<=sizeLine+1;decide))
 refine wpAny_bind (wpAny_letGo ?_)
 have hS₂:=Heap.get?_update_self (Obj.mapSeq (λ_=>(#[]:Array Value))) hS₁ rfl
 have oth:∀b o,b≠s.heap.objs.size->(s.heap.push { cls:=.type "list",data:=.seq #[] }).get? b=some o->
  ((s.heap.push { cls:=.type "list",data:=.seq #[] }).update s.heap.objs.size (Obj.mapSeq (λ_=>(#[]:Array Value)))).get? b=some o:=
  λb o hb e=>(Heap.get?_update_other _ _ (Ne.symm hb)).trans e
 have hit₂:((s.heap.push { cls:=.type "list",data:=.seq #[] }).update s.heap.objs.size (Obj.mapSeq (λ_=>(#[]:Array Value)))).IsRevIter I l ((items.size:Int) - 1):=hit₁.at λo e=>oth I o (Ne.symm hSI) e
 have h1:Builtin.List.listSameRef (.ref s.heap.objs.size) (.ref I)=false:=by simp[Builtin.List.listSameRef,hSI]
 have h2:(Value.type "list_reverseiterator" == Value.type "list")=false:=by decide
 have h3:(Value.type "list_reverseiterator" == Value.type "tuple")=false:=by decide
 have hst:0<=items.size/\s.heap.IsRevIter I l ((items.size:Int) - 1 - ((0:Nat):Int))/\s.heap.IsList l items:=⟨Nat.zero_le _,by
  have e:(items.size:Int) - 1 - ((0:Nat):Int)=(items.size:Int) - 1:=by omega
  rw[e];exact hit,ht⟩
 unfold Builtin.List.listExtendWith
 refine wpAny_bind (wpAny_typeOf hit₂.typeIs ?_)
 simp only[h1,h2,h3,Bool.or_false,Bool.false_eq_true,if_false]
 refine wpAny_bind (wpAny_pyIter_revIter hit₂ ?_)
 refine wpAny_bind (wpAny_holding ?_)
 unfold Builtin.List.listLengthHint
 refine wpAny_bind (wpAny_specialOf hit₂.typeIs F.ahI ?_)
 show wpAny _ _ (specialOf (Value.ref I) (Str.ofString "__length_hint__") >>= _) _ _ _
 refine wpAny_bind (wpAny_specialOf hit₂.typeIs F.ahJ.lookup ?_)
 (generalize hid:("list_reverseiterator.__length_hint__":String)=id0;(fail_if_success (clear hid id0));wp_delta;rw[show splitId id0=some ("list_reverseiterator","__length_hint__") from by subst hid;decide +kernel];subst hid)
 refine wpAny_bind (wpAny_isInstance (b:=true) hit₂.typeIs (by rw[isSubtype_type];kernel_rfl) ?_)
 rw[if_neg (by decide)]
 dsimp only
 rw[if_pos (by decide +kernel),if_neg (by decide)]
 refine wpAny_pure ?_
 rw[if_neg (by decide)]
 refine wpAny_pure ⟨plainId_quiet F.plain_extend_loop _,codeAny_extend_loopS W hn _ hSf _ items.size 0 _ _ _ rfl (Nat.zero_le _) (W.frame 0 s _ s.toks hst (Nat.le_refl _) λb hb o e=>oth b o (λh=>hSf (h ▸ hb)) (Heap.get?_push_of_some _ e)) hS₂ (ItemsOf.nil _) λs' acc' c' hm hS' hacc=>?_⟩
 exact⟨rfl,hQ s' acc' c' ⟨λb o hb e=>hm.heap b o hb (oth b o (λh=>hb (by rw[h];exact List.mem_cons_self)) e),hm.gens,hm.drawn,hm.os,hm.toks⟩ hS' hacc⟩
end
end PySem
namespace L2
open PySem PyProof.Rows
theorem Yp:∀{xs:List V}{us:List Value},xs.length=us.length->(∀(i:Nat) (x:V) (u:Value),xs[i]? =some x->us[i]? =some u->RelV x u)->Vals xs us
 |[],[],_,_=>.nil
 |x::xs,u::us,hl,h=>.cons (h 0 x u rfl rfl) (Yp (by simpa using hl) λi y v hy hv=>h (i+1) y v (by simpa using hy) (by simpa using hv))
 |[],_::_,hl,_=>by cases hl
 |_::_,[],hl,_=>by cases hl
noncomputable def ahL (K:W.Frag) (te:TE):TE:=λσ H Q=>te σ H λv H1=>∃a xs,v=.ref a/\aL K H1 a xs/\∀l,H1 l=none->Q (.ref l) (upd H1 l (.lst xs.reverse))
section
variable {X:Cx}{e:Expr}{te:TE}{p p2 pos pos2:Pos}
theorem ahM (hc:X.calm=true)(hg:Gl X "list")(hm:X.mg "list"=none)(hb:bootBuiltins "list"=some (.type "list"))(hg2:Gl X "reversed")(hm2:X.mg "reversed"=none)(hb2:bootBuiltins "reversed"=some (.type "reversed"))(he:PE X e te)
 (hs:starEach [e] X.env=(false,eval e X.env)::starEach [] X.env:=by rfl)
 (hs2:starEach [.Call (.Name "reversed" p2) [e] [] pos2] X.env=(false,eval (.Call (.Name "reversed" p2) [e] [] pos2) X.env)::starEach [] X.env:=by rfl):
 PE X (.Call (.Name "list" p) [.Call (.Name "reversed" p2) [e] [] pos2] [] pos) (ahL X.K te):=by
 intro pins s σ H Q I h
 refine wpAny_Call_Name_kw (pI I hg hm hb ?_ (by decide) (by decide))
 refine PyProof.Rows.callWith_type1 ?_ hs2 rfl
 rw[hs2]
 show wpAny _ _ (spliced ((false,eval (.Call (.Name "reversed" p2) [e] [] pos2) X.env)::[])) _ _ s
 refine Calls.spliced_cons ?_
 refine wpAny_Call_Name_kw (pI I hg2 hm2 hb2 ?_ (by decide) (by decide))
 refine PyProof.Rows.callWith_type1 ?_ hs rfl
 rw[hs]
 show wpAny _ _ (spliced ((false,eval e X.env)::[])) _ _ s
 refine Calls.spliced_cons (aP (he pins s σ H _ I h) λu s1 ⟨x,H1,I1,r1,q1⟩=>?_)
 refine Calls.spliced_nil ?_
 obtain⟨a,xs,rfl,hq,q⟩:=q1
 cases r1
 obtain⟨its,r',pl,hz⟩:=I1.list hq
 have hlen:=r'.length
 have hsz:its.toArray.size=its.length:=List.size_toArray
 have Yq:=pl.isList
 refine call_reversed_list Yq ?_
 refine Calls.spliced_nil ?_
 have ho:=id Yq
 obtain⟨o,hoa,hr⟩:=ho
 have hne:a≠s1.heap.objs.size:=λz=>Nat.lt_irrefl _ (z ▸ Heap.lt_size hoa)
 have pl2:(s1.heap.push (revObj a ((its.toArray.size:Int) - 1))).IsList a its.toArray:=⟨o,Heap.get?_push_of_some _ hoa,hr⟩
 have hit:(s1.heap.push (revObj a ((its.toArray.size:Int) - 1))).IsRevIter s1.heap.objs.size a ((its.toArray.size:Int) - 1):=⟨_,Heap.get?_push_size _ rfl,rfl,rfl⟩
 refine ahK (s:={ s1 with heap:=s1.heap.push (revObj a ((its.toArray.size:Int) - 1)) }) (I1.ok.hd hc) hne (by rw[hsz];omega) hit pl2 ?_ ?_
 . intro b hb'
   rcases List.mem_cons.mp hb' with z|z
   . rw[z];exact Heap.lt_size (Heap.get?_push_size _ rfl)
   . rw[List.mem_singleton.mp z];exact Heap.lt_size (Heap.get?_push_of_some _ hoa)
 . intro s' acc c' hm' hS' hacc
   have hlt1:(s1.heap.push (revObj a ((its.toArray.size:Int) - 1))).objs.size=s1.heap.objs.size+1:=by
    first|rfl|simp[Heap.push]
   have kp:∀b u,s1.heap.get? b=some u->s'.heap.get? b=some u:=λb u Yr=>hm'.heap b u (λz=>by
    have hb2:=Heap.lt_size Yr
    rcases List.mem_cons.mp z with z|z
    . exact absurd hb2 (Nat.not_lt.mpr (by rw[z];exact Nat.le_trans (Nat.le_succ _) (Nat.le_of_eq hlt1.symm)))
    . exact absurd hb2 (Nat.not_lt.mpr (by rw[List.mem_singleton.mp z];exact Nat.le_refl _))) (Heap.get?_push_of_some _ (Heap.get?_push_of_some _ Yr))
   have hv:Vals xs.reverse acc.toList:=by
    refine Yp ?_ λi x u hx hu=>?_
    . rw[List.length_reverse,hlen,<-hsz,<-hacc.1];exact Array.length_toList.symm
    . have hi:i<xs.length:=by
       have:=(List.getElem?_eq_some_iff.mp hx).1
       rw[List.length_reverse] at this;exact this
      have hu2:acc[i]? =some u:=by rw[<-hu];simp
      have h1:=hacc.2 i u hu2
      rw[List.getElem?_reverse hi] at hx
      obtain⟨u',hu',ru⟩:=r'.get hx
      have e1:its.toArray[its.toArray.size - 1 - i]? =some u':=by
       rw[hsz,<-hlen];simpa using hu'
      rw[e1] at h1
      injection h1 with h1
      subst h1
      exact ru
   obtain⟨h',g',d',tk',os'⟩:=s'
   have eg:g'=s1.gens:=hm'.gens
   have ed:d'=s1.drawn:=hm'.drawn
   have eo:os'=s1.os:=hm'.os
   subst eg ed eo
   have hfr:s1.heap.objs.size<=(s1.heap.push (revObj a ((its.toArray.size:Int) - 1))).objs.size:=by rw[hlt1];omega
   have I2:Inv X pins σ (upd H1 (s1.heap.push (revObj a ((its.toArray.size:Int) - 1))).objs.size (.lst xs.reverse)) { s1 with heap:=h',toks:=tk' }:=
    I1.laid (t':=tk') kp hfr (show eG X.prog X.w _ h' _ (.lst xs.reverse) from⟨by rw[List.length_reverse];exact hz,acc.toList,c',hv,by
      have:=hS'
      simpa using this⟩)
   exact⟨.ref _,_,I2,rfl,q _ (I1.hok.fresh hfr)⟩
end
end L2
namespace Pb
open PySem L2 PyProof.Rows
structure Jo (d:Nat) (m:Bool) (k t:Kd):Prop where
 mx:Mx d k t
 n:t.N
 dep:t.dep<=d
 len:t.tk.length=k.tk.length
 eq:m=false->t=k
structure zu (d:Nat) (m:Bool) (fs gs:Fs):Prop where
 mx:kE (Mx d) fs gs
 n:gs.N
 dep:gs.dep<=d
 len:gs.tk.length=fs.tk.length
 eq:m=false->gs=fs
noncomputable def fQ (l:List (Str × Kd)):Nat:=(l.map λe=>e.2.tk.length+3).sum
theorem iQ (e:Str × Kd)(l:List (Str × Kd)):fQ (e::l)=e.2.tk.length+3+fQ l:=rfl
theorem Jp:∀(l m:List (Str × Kd)),fQ (l++m)=fQ l+fQ m
 |[],m=>(Nat.zero_add _).symm
 |e::l,m=>by rw[List.cons_append,iQ,iQ,Jp l m];omega
theorem Ys {l m:List (Str × Kd)}(h:l.Perm m):fQ l=fQ m:=by
 induction h with
 |nil=>rfl
 |cons x _ ih=>rw[iQ,iQ,ih]
 |swap x y l=>rw[iQ,iQ,iQ,iQ];omega
 |trans _ _ a b=>exact a.trans b
theorem Yt (l:List (Str × Kd))(i:Nat):fQ (l.take i)<=fQ l:=by
 conv=>rhs;rw[<-List.take_append_drop i l,Jp]
 omega
theorem Fs.Yu:∀(fs:Fs),fs.cD.length=fQ fs.toL
 | .nil=>rfl
 | .cons x k r=>by
   show(mkT 44::aK (sl x)::mkT 58::(k.tk++r.cD)).length=fQ ((x,k)::r.toL)
   rw[iQ]
   simp only[List.length_cons,List.length_append,Fs.Yu r]
   omega
theorem Fs.tW (fs:Fs):fs.tk.length=fQ fs.toL - 1:=by
 cases fs with
 |nil=>rfl
 |cons x k r=>
  show(aK (sl x)::mkT 58::(k.tk++r.cD)).length=fQ ((x,k)::r.toL) - 1
  rw[iQ]
  simp only[List.length_cons,List.length_append,Fs.Yu r]
  omega
theorem Fs.Yv:∀(gs:Fs) (x:Str) (t:Kd),(gs.snoc x t).cD=gs.cD++(mkT 44::aK (sl x)::mkT 58::t.tk)
 | .nil,x,t=>by
   show mkT 44::aK (sl x)::mkT 58::(t.tk++[])=_
   rw[List.append_nil];rfl
 | .cons y q r,x,t=>by
   show mkT 44::aK (sl y)::mkT 58::(q.tk++(r.snoc x t).cD)=mkT 44::aK (sl y)::mkT 58::(q.tk++r.cD)++_
   rw[Fs.Yv r];simp
theorem Fs.Jq (x:Str)(t:Kd):(Fs.nil.snoc x t).tk=aK (sl x)::mkT 58::t.tk:=by
 show aK (sl x)::mkT 58::(t.tk++[])=_
 rw[List.append_nil]
theorem Fs.Jr {gs:Fs}(h:gs.toL≠[])(x:Str)(t:Kd):(gs.snoc x t).tk=gs.tk++(mkT 44::aK (sl x)::mkT 58::t.tk):=by
 cases gs with
 |nil=>exact absurd rfl h
 |cons y q r=>
  show aK (sl y)::mkT 58::(q.tk++(r.snoc x t).cD)=aK (sl y)::mkT 58::(q.tk++r.cD)++_
  rw[Fs.Yv r];simp
theorem Fs.Dh:∀{fs:Fs},(∀e∈fs.toL,bZ (sl e.1)/\e.2.N)->fs.N
 | .nil,_=>by simp[Fs.N]
 | .cons x k r,h=>by unfold Fs.N;exact⟨(h _ List.mem_cons_self).1,(h _ List.mem_cons_self).2,Fs.Dh λe he=>h e (List.mem_cons_of_mem _ he)⟩
theorem Fs.Yw:∀{fs:Fs},fs.N->∀e∈fs.toL,bZ (sl e.1)/\e.2.N
 | .nil,_,e,he=>nomatch he
 | .cons x k r,h,e,he=>by
   unfold Fs.N at h
   rcases List.mem_cons.mp he with z|z
   . rw[z];exact⟨h.1,h.2.1⟩
   . exact Fs.Yw h.2.2 e z
theorem Fs.Js {d:Nat}:∀{fs:Fs},(∀e∈fs.toL,e.2.dep<=d)->fs.dep<=d
 | .nil,_=>Nat.zero_le _
 | .cons x k r,h=>Nat.max_le.mpr ⟨h _ List.mem_cons_self,Fs.Js λe he=>h e (List.mem_cons_of_mem _ he)⟩
theorem Fs.zx {d:Nat}:∀{fs:Fs},fs.dep<=d->∀e∈fs.toL,e.2.dep<=d
 | .nil,_,e,he=>nomatch he
 | .cons x k r,h,e,he=>by
   have h:=Nat.max_le.mp h
   rcases List.mem_cons.mp he with z|z
   . rw[z];exact h.1
   . exact Fs.zx h.2 e z
theorem Fs.zy:∀{fs gs:Fs},fs.toL=gs.toL->fs=gs
 | .nil,.nil,_=>rfl
 | .nil,.cons _ _ _,h=>nomatch h
 | .cons _ _ _,.nil,h=>nomatch h
 | .cons x k r,.cons y q s,h=>by
   injection h with h1 h2
   injection h1 with h3 h4
   rw[h3,h4,Fs.zy h2]
theorem zu.of {d:Nat}{m:Bool}{fs gs:Fs}{tl:List eY}(hp:fs.toL.Perm (tl.map λe=>(e.1,e.2.1)))(hg:gs.toL=tl.map λe=>(e.1,e.2.2))(h:∀e∈tl,bZ (sl e.1)/\Jo d m e.2.1 e.2.2)(he:m=false->fs.toL=tl.map λe=>(e.1,e.2.1)):zu d m fs gs:=by
 refine⟨⟨tl,hp,hg,λe he=>(h e he).2.mx⟩,Fs.Dh λe he=>?_,Fs.Js λe he=>?_,?_,λhm=>Fs.zy ?_⟩
 . rw[hg] at he
   obtain⟨t,ht,rfl⟩:=List.mem_map.mp he
   exact⟨(h t ht).1,(h t ht).2.n⟩
 . rw[hg] at he
   obtain⟨t,ht,rfl⟩:=List.mem_map.mp he
   exact(h t ht).2.dep
 . rw[Fs.tW,Fs.tW,Ys hp,hg]
   unfold fQ
   rw[List.map_map,List.map_map]
   have:tl.map ((λe:Str × Kd=>e.2.tk.length+3) ∘ λe:eY=>(e.1,e.2.2))=tl.map ((λe:Str × Kd=>e.2.tk.length+3) ∘ λe:eY=>(e.1,e.2.1)):=List.map_congr_left λe he=>by
    show e.2.2.tk.length+3=e.2.1.tk.length+3
    rw[(h e he).2.len]
   rw[this]
 . rw[hg,he hm]
   exact List.map_congr_left λe he=>by rw[(h e he).2.eq hm]
theorem FA.zs {H:Hp}:∀{fs:Fs}{ws:List V},FA H ws fs->∃zs:List Zd,zs.map (·.1)=ws/\zs.map (·.2)=fs.toL/\∀z∈zs,tK H z
 | .nil,ws,h=>by
   unfold FA at h
   exact⟨[],h.symm,rfl,λz hz=>nomatch hz⟩
 | .cons x k r,ws,h=>by
   unfold FA at h
   obtain⟨c,u,vr,rfl,hc,hk,hr⟩:=h
   obtain⟨zs,h1,h2,h3⟩:=FA.zs hr
   refine⟨(.ref c,x,k)::zs,by rw[List.map_cons,h1],by rw[List.map_cons,h2];rfl,λz hz=>?_⟩
   rcases List.mem_cons.mp hz with e|e
   . rw[e];exact⟨c,u,rfl,hc,hk⟩
   . exact h3 z e
theorem tK.mono {H H':Hp}(t:Tu H H'){z:Zd}(h:tK H z):tK H' z:=by
 obtain⟨c,u,h1,h2,h3⟩:=h
 exact⟨c,u,h1,t _ _ h2,KA.mono t _ h3⟩
theorem Yx (xs:List V)(i:Nat)(h:i<=xs.length):jX xs (some (i:Int)) none=xs.drop i:=by
 unfold jX
 rw[HT.Te,HT.Tf,Nat.min_eq_left h]
 exact List.take_of_length_le (by rw[List.length_drop];exact Nat.le_refl _)
theorem Yy (xs:List V)(i:Nat)(h:i<=xs.length):jX xs none (some (i:Int))=xs.take i:=by
 unfold jX
 rw[HT.Te,HT.Tf,Nat.min_eq_left h,List.drop_zero,Nat.sub_zero]
noncomputable def zA (K:W.Frag) (d:Nat):Sp:=λvs H Q _=>∃a b ns n v k m,vs=[.ref a,.ref b,v,.bl m]/\G0 K H a b ns n/\KA H v k/\k.dep<=d/\k.N/\k.tk.length<=1000/\n+k.tk.length<=1000000000000/\
 ∀(l:Addr) (t:Kd) (n':Int) (H':Hp),SB b H H'->H' b=some (.lst [.int n'])->n<=n'->n'<=n+k.tk.length->H' l=some (.lst (PV t.tk))->Jo d m k t->Q (.ref l) H'
noncomputable def Yz (K:W.Frag) (d:Nat):Sp:=λvs H Q _=>∃a b ns n q ws fs m,vs=[.ref a,.ref b,.ref q,.bl m]/\G0 K H a b ns n/\H q=some (.tup ws)/\FA H ws fs/\fs.dep<=d/\fs.N/\fs.tk.length<=998/\n+fs.tk.length+2<=1000000000000/\
 ∀(l:Addr) (gs:Fs) (n':Int) (H':Hp),SB b H H'->H' b=some (.lst [.int n'])->n<=n'->n'<=n+fs.tk.length+2->H' l=some (.lst (PV (mkT 123::(gs.tk++[mkT 125]))))->zu d m fs gs->Q (.ref l) H'
theorem zB (x:Str):ao (sl x)=x:=uW x
variable {P:Program}{w:World}{K:W.Frag}{mg:Str->Option Value}{base:Heap}
theorem YB:bR ["_law_script","_law_at","_law_fields_here","_law_mixed","_law_row","_law_m","_law_cut","_law_pieces","_law_k","_law_pair"] ["_law_script","_law_at","_law_fields_here","_law_mixed"] (aN (top 42)):=cA
theorem ahO (d:Nat)(T:Tb mg)(iz:Dn K mg "_law_field_pieces" ["_law_script","_law_at","_law_fields_here","_law_mixed"] (top 42) Di Dj)(gJ:Dn K mg "_law_kind_pieces" ["_law_script","_law_at","_law_kind_here","_law_mixed"] (top 43) qZ q9)(zE:aB P w K mg base aO (2 * d+1) qZ q9 ["_law_script","_law_at","_law_kind_here","_law_mixed"] (zA K d))(bA:Dn K mg "_law_next" ["_law_script","_law_at"] (top 34) eU eV)(fJ:aB P w K mg base aO (1) eU eV ["_law_script","_law_at"] (lZ K)):aB P w K mg base aO (2 * d+2) Di Dj ["_law_script","_law_at","_law_fields_here","_law_mixed"] (Yz K d):=by
 refine iz.F.ok YB (λvs H Q E h=>?_) (λcdv A outer s H vs Q E hr h=>?_)
 . obtain⟨a,b,ns,n,q,ws,fs,m,rfl,_⟩:=h
   rfl
 obtain⟨a,b,ns,n,q,ws,fs,m,rfl,g,hq,hF,hdp,hN,asz,hn,fin⟩:=h
 have nd:=YB.nd
 refine⟨_,(aC (aQ (i:=4) nd rfl (Or.inl rfl) (uI adx (by rfl) T.Vh boot_list (aj (pv 2) ak)))
  (aC (bF (PW.pt (lO (iV (pv 3)) (oA (bh pP (gb pU (by rfl) T.jJ PySem.boot_len (aj (pv 4) ak)) au (bw _))))) (aC (aQ (i:=5) nd rfl (Or.inl rfl) (aV fJ (hr.mono (by omega)) rfl bA.m bA.F.kp bA.b .nil aY (aj (pv 0) (aj (pv 1) ak))))
  (aC (aQ (i:=6) nd rfl (Or.inl rfl) (aF cC (pv 5) (gb pU (by rfl) T.jJ PySem.boot_len (aj (pv 4) ak))))
  (aC (aQ (i:=4) nd rfl (Or.inl rfl) (aF eO (lV wN (pv 4) (iY (pv 6)) uJ) (lV wN (pv 4) uJ (iY (pv 6)))))
  (aH (bF (bh cj (aF cC (aF dR (pv 5) au) au) au (bw _)) (aH (aQ (i:=4) nd rfl (Or.inl rfl) (ahM rfl rfl T.Vh boot_list rfl T.afk boot_reversed (pv 4)))) bG))))) bG)
  (aC (aQ (i:=7) nd rfl (Or.inl rfl) (bJ (aj aD ak)))
  (aC (lQ PassesOwn.never rfl (Aw rfl T.BL (aj (pv 4) ak)) (rK rfl (fX (dw (i:=8) nd rfl (Or.inl rfl)) (fX (dw (i:=9) nd rfl (Or.inl rfl)) ni))) (aC (bF (bh pP (pv 8) au (bw _)) (aH (gW (iZ PySem.F.plainAttrs_list PySem.F.slot_list_append PySem.F.type_list_append k_ (pv 7) (aj aD ak)))) bG)
  (aH (gW (iZ PySem.F.plainAttrs_list PySem.F.slot_list_extend PySem.F.type_list_extend Tw (pv 7) (aj (aF eO (bJ (aj (aU bY (pv 9) au (λ_ _=>rfl)) (aj aD ak))) (aV zE (hr.mono (by omega)) rfl gJ.m gJ.F.kp gJ.b .nil aY (aj (pv 0) (aj (pv 1) (aj (aU bY (pv 9) au (λ_ _=>rfl)) (aj (pv 3) ak)))))) ak))))))
  (aH (aW (aF eO (pv 7) (bJ (aj aD ak))))))))),?_⟩
 obtain⟨zs,z1,z2,z3⟩:=FA.zs hF
 have hsum:fQ fs.toL<=fs.tk.length+1:=by rw[Fs.tW];omega
 have hb:=g.at_
 have c1:Str.ofString "{"=ao [123]:=by decide +kernel
 have c2:Str.ofString "}"=ao [125]:=by decide +kernel
 have c3:Str.ofString ","=ao [44]:=by decide +kernel
 have c4:Str.ofString ":"=ao [58]:=by decide +kernel
 have hwl:ws.length=zs.length:=by rw[<-z1,List.length_map]
 have hzl:zs.length<=1000:=by
  have e:zs.length=fs.toL.length:=by rw[<-z2,List.length_map]
  have:∀l:List (Str × Kd),l.length<=fQ l:=λl=>by
   induction l with
   |nil=>exact Nat.le_refl _
   |cons e l ih=>rw[iQ,List.length_cons];omega
  have:=this fs.toL
  omega
 refine⟨_,rfl,q,ws,rfl,.inr (aM.of hq),λr0 hr0=>?_⟩
 have s1:SB b H (upd H r0 (.lst ws)):=SB.new hr0
 have hb1:upd H r0 (.lst ws) b=some (.lst [.int n]):=by rw[aq (aJ hb hr0)];exact hb
 have hr1:upd H r0 (.lst ws) r0=some (.lst ws):=aG
 have hrb:r0≠b:=λe=>by rw[e,hb] at hr0;cases hr0
 generalize upd H r0 (.lst ws)=H1 at *
 dsimp only[gA]
 refine jB (A:=pK _ _ _) (λσ' H'=>∃(rw:Addr) (zs':List Zd) (n':Int) (x5 x6 x7 x8 x9:Option V),σ'=[some (.ref a),some (.ref b),some (.ref q),some (.bl m),some (.ref rw),x5,x6,x7,x8,x9]/\SB b H H'/\H' b=some (.lst [.int n'])/\n<=n'/\n'<=n+1/\rw≠b/\H' rw=some (.lst (zs'.map (·.1)))/\zs'.Perm zs/\(m=false->zs'=zs)) ?_ (λhB=>?_)
 . rintro _ H2 ⟨q_,zs',n1,x5,x6,x7,x8,x9,rfl,s2,h2,w1,w2,hwb,hrw,hperm,heq⟩
   have hP:fs.toL.Perm (zs'.map (·.2)):=by rw[<-z2];exact(hperm.map _).symm
   refine⟨cJ,λpl hpl=>?_⟩
   have Dk:pl≠b:=λe=>by rw[e,h2] at hpl;cases hpl
   have Dl:q_≠pl:=aJ hrw hpl
   have YC:∀c o,c≠b->H c=some o->c≠pl:=λc o hc ho=>aJ (s2 c o hc ho) hpl
   refine⟨_,rfl,q_,rfl,⟨_,aL.of (by rw[aq Dl];exact hrw)⟩,Cd (xs:=zs'.map (·.1)) (λi σ H'=>∃(y8 y9:Option V) (tl:List eY) (gs:Fs) (n':Int),σ=[some (.ref a),some (.ref b),some (.ref q),some (.bl m),some (.ref q_),x5,x6,some (.ref pl),y8,y9]/\SB b H H'/\H' b=some (.lst [.int n'])/\n<=n'/\n'<=n+1+gs.tk.length/\H' q_=some (.lst (zs'.map (·.1)))/\H' pl=some (.lst (PV (mkT 123::gs.tk)))/\tl.map (λe=>(e.1,e.2.1))=(zs'.take i).map (·.2)/\gs.toL=tl.map (λe=>(e.1,e.2.2))/\∀e∈tl,bZ (sl e.1)/\Jo d m e.2.1 e.2.2) ?_ ?_ ?_ ?_⟩
   . exact⟨_,_,[],.nil,n1,rfl,s2.trans (SB.new hpl),by rw[aq (Ne.symm Dk)];exact h2,w1,by omega,by rw[aq Dl];exact hrw,by rw[aG,c1];rfl,rfl,rfl,λe he=>nomatch he⟩
   . rintro i σ H' _ ⟨_,_,_,_,_,_,_,_,_,_,h,_⟩
     exact aL.of h
   . rintro i y σ H' pp hy ⟨y8,y9,tl,gs,n',rfl,s3,h3,v1,v2,YD,Dp,ht1,jm,jh⟩ hpp
     rw[List.getElem?_map] at hy
     obtain⟨z,hz,rfl⟩:=Option.map_eq_some_iff.mp hy
     have YF:=List.mem_of_getElem? hz
     obtain⟨cz,uz,ez,hcz,hkz⟩:=(z3 z (hperm.mem_iff.mp YF)).mono (s3.tu hb)
     have YG:(z.2.1,z.2.2)∈fs.toL:=by rw[<-z2];exact List.mem_map.mpr ⟨z,hperm.mem_iff.mp YF,rfl⟩
     have YH:=Fs.Yw hN _ YG
     have hzd:=Fs.zx hdp _ YG
     have htk:zs'.take (i+1)=zs'.take i++[z]:=by rw[List.take_add_one,hz];rfl
     have hlen:fQ ((zs'.take i).map (·.2))+z.2.2.tk.length+3<=fs.tk.length+1:=by
      have h1:=Yt (zs'.map (·.2)) (i+1)
      rw[<-List.map_take,htk,List.map_append,Jp,<-Ys hP] at h1
      have h2:fQ ([z].map (·.2))=z.2.2.tk.length+3:=rfl
      omega
     have oU:gs.tk.length<=fQ ((zs'.take i).map (·.2)):=by
      rw[Fs.tW,jm,<-ht1]
      unfold fQ
      rw[List.map_map,List.map_map]
      have:tl.map ((λe:Str × Kd=>e.2.tk.length+3) ∘ λe:eY=>(e.1,e.2.2))=tl.map ((λe:Str × Kd=>e.2.tk.length+3) ∘ λe:eY=>(e.1,e.2.1)):=List.map_congr_left λe he=>by
       show e.2.2.tk.length+3=e.2.1.tk.length+3
       rw[(jh e he).2.len]
      rw[this]
      exact Nat.sub_le _ _
     have hil:tl.length=i:=by
      have:=congrArg List.length ht1
      rw[List.length_map,List.length_map,List.length_take] at this
      have:=(List.getElem?_eq_some_iff.mp hz).1
      omega
     have sp:Same H' (upd H' pp (.tup [.int i,z.1])):=Same.new hpp
     have p3:upd H' pp (.tup [.int i,z.1]) pp=some (.tup [.int i,z.1]):=aG
     have s4:=s3.trans (SB.of (b:=b) sp)
     have h4:=sp _ _ h3
     have YJ:=sp _ _ YD
     have Dq:=sp _ _ Dp
     have YK:=sp _ _ hcz
     have YL:=KA.mono (Tu.of sp) _ hkz
     generalize upd H' pp (.tup [.int i,z.1])=H4 at *
     clear hpp sp
     refine⟨pp,_,rfl,aM.of p3,rfl,_,_,rfl,_,_,rfl,rfl,?_⟩
     rw[ez]
     dsimp only[gA]
     refine jB (A:=pK _ _ _) (λσ' H'=>σ'=[some (.ref a),some (.ref b),some (.ref q),some (.bl m),some (.ref q_),x5,x6,some (.ref pl),some (.int i),some (.ref cz)]/\SB b H H'/\H' b=some (.lst [.int n'])/\H' q_=some (.lst (zs'.map (·.1)))/\H' cz=some (.tup [.str z.2.1,uz])/\KA H' uz z.2.2/\H' pl=some (.lst (PV (mkT 123::(gs.tk++if i=0 then [] else [mkT 44]))))) ?_ (λhB2=>?_)
     . rintro _ H5 ⟨rfl,s5,h5,ahS,YM,ahT,nY⟩
       have lG:(PV (mkT 123::(gs.tk++if i=0 then [] else [mkT 44]))).length<=1010:=by
        rw[dI,List.length_cons,List.length_append]
        split <;> simp only[List.length_nil,List.length_cons] <;> omega
       refine⟨_,rfl,.inl ⟨rfl,_,aL.of nY⟩,_,rfl,cz,_,_,_,rfl,rfl,aM.of YM,rfl,bC,λpq hpq=>?_⟩
       have ahU:pq≠b:=λe=>by rw[e,h5] at hpq;cases hpq
       have sq:Same H5 (upd H5 pq (.lst [.str z.2.1,.str ":"])):=Same.new hpq
       have Jt:upd H5 pq (.lst [.str z.2.1,.str ":"]) pq=some (.lst [.str z.2.1,.str ":"]):=aG
       have s6:=s5.trans (SB.of (b:=b) sq)
       have h6:=sq _ _ h5
       have ahV:=sq _ _ ahS
       have Dr:=sq _ _ nY
       have ahW:=sq _ _ YM
       have ahX:=KA.mono (Tu.of sq) _ ahT
       have npq:pl≠pq:=aJ nY hpq
       generalize upd H5 pq (.lst [.str z.2.1,.str ":"])=H6 at *
       clear hpq sq
       refine⟨_,rfl,_,rfl,_,rfl,cz,_,_,_,rfl,rfl,aM.of ahW,rfl,_,rfl,a,b,ns,n',uz,z.2.2,m,rfl,g.go s6 h6 v1,ahX,hzd,YH.2,by omega,by omega,λl t n2 H7 s7 h7 u1 u2 vI hpc=>?_⟩
       have tl7:=hpc.len
       refine⟨pq,l,_,_,rfl,rfl,s7 _ _ ahU Jt,vI,by rw[dI];show 2+t.tk.length<=sizeLine;exact Nat.le_trans (show _<=2000 by omega) (by decide),λpr hpr=>?_⟩
       have YQ:=s7 _ _ Dk Dr
       have Ju:pl≠pr:=aJ YQ hpr
       refine⟨pl,pr,_,_,rfl,rfl,by rw[aq Ju];exact YQ,aG,?_,?_⟩
       . show(PV (mkT 123::(gs.tk++if i=0 then [] else [mkT 44]))).length+([V.str z.2.1,V.str ":"]++PV t.tk).length<=sizeLine
         rw[List.length_append,dI t.tk]
         have:[V.str z.2.1,V.str ":"].length=2:=rfl
         exact Nat.le_trans (show _<=4000 by omega) (by decide)
       have Jv:∀c o,c≠pl->H7 c=some o->upd (upd H7 pr (.lst ([V.str z.2.1,V.str ":"]++PV t.tk))) pl (.lst (PV (mkT 123::(gs.tk++if i=0 then [] else [mkT 44]))++([V.str z.2.1,V.str ":"]++PV t.tk))) c=some o:=λc o hc ho=>by
        rw[aq hc,aq (aJ ho hpr)];exact ho
       refine⟨_,_,tl++[(z.2.1,z.2.2,t)],gs.snoc z.2.1 t,n2,rfl,λc o hc ho=>Jv c o (YC c o hc ho) (s7 c o hc (s6 c o hc ho)),Jv b _ (Ne.symm Dk) h7,by omega,?_,Jv q_ _ Dl (s7 _ _ hwb ahV),?_,?_,?_,?_⟩
       . have:gs.tk.length+t.tk.length<=(gs.snoc z.2.1 t).tk.length:=by
          by_cases hg:gs.toL=[]
          . have:gs=.nil:=Fs.zy hg
            subst this
            rw[Fs.Jq];simp only[List.length_cons];show 0+_<=_;omega
          . rw[Fs.Jr hg,List.length_append];simp only[List.length_cons];omega
         omega
       . rw[aG]
         refine congrArg (λx=>some (HO.lst x)) ?_
         have e1:[V.str z.2.1,V.str ":"]++PV t.tk=PV (aK (sl z.2.1)::mkT 58::t.tk):=by
          show V.str z.2.1::V.str ":"::PV t.tk=SX (sl z.2.1)::SX [58]::PV t.tk
          unfold SX
          rw[zB,<-c4]
         rw[e1,<-jA]
         refine congrArg PV ?_
         by_cases hi0:i=0
         . have:gs=.nil:=Fs.zy (by rw[jm,List.length_eq_zero_iff.mp (hil.trans hi0)];rfl)
           subst this
           rw[if_pos hi0,Fs.Jq]
           rfl
         . have hg:gs.toL≠[]:=λe=>by
            rw[jm] at e
            have:=congrArg List.length e
            rw[List.length_map] at this
            exact hi0 (hil.symm.trans this)
           rw[if_neg hi0,Fs.Jr hg]
           simp
       . rw[List.map_append,ht1,htk,List.map_append];rfl
       . rw[Fs.CV,jm,List.map_append];rfl
       . intro e he
         rcases List.mem_append.mp he with he|he
         . exact jh e he
         . rw[List.mem_singleton.mp he];exact⟨YH.1,hpc⟩
     . refine⟨_,rfl,_,_,rfl,rfl,_,rfl,bN (λc=>?_) (λc=>?_)⟩
       . have ci:(0:Int)<(i:Int):=of_decide_eq_true c
         refine⟨_,rfl,.inl ⟨rfl,_,aL.of Dq⟩,pl,_,_,rfl,rfl,Dq,by rw[dI];exact Nat.lt_of_le_of_lt (show _<=1010 by rw[List.length_cons];omega) (by decide),?_⟩
         have Ds:∀c o,c≠pl->H4 c=some o->upd H4 pl (.lst (PV (mkT 123::gs.tk)++[.str ","])) c=some o:=λc o hc ho=>by rw[aq hc];exact ho
         have YS:Tu H4 (upd H4 pl (.lst (PV (mkT 123::gs.tk)++[.str ","]))):=λc xs h=>Ds c _ (fW h Dq (by intro z;cases z)) h
         refine hB2 _ _ ⟨rfl,λc o hc ho=>Ds c o (YC c o hc ho) (s4 c o hc ho),Ds b _ (Ne.symm Dk) h4,Ds q_ _ Dl YJ,YS _ _ YK,KA.mono YS _ YL,?_⟩
         rw[aG,if_neg (by omega)]
         refine congrArg (λx=>some (HO.lst x)) ?_
         rw[<-List.cons_append,jA]
         refine congrArg (PV (mkT 123::gs.tk)++ ·) ?_
         rw[c3];rfl
       . have ci:i=0:=by
          rcases Nat.eq_zero_or_pos i with z|z
          . exact z
          . exact absurd (decide_eq_true (show(0:Int)<(i:Int) by omega)) c
         refine hB2 _ _ ⟨rfl,s4,h4,YJ,YK,YL,?_⟩
         rw[if_pos ci,List.append_nil];exact Dq
   . rintro σ H' ⟨y8,y9,tl,gs,n',rfl,s3,h3,v1,v2,YD,Dp,ht1,jm,jh⟩
     rw[List.length_map,List.take_length] at ht1
     have hO:zu d m fs gs:=zu.of (tl:=tl) (by rw[ht1];exact hP) jm jh λhm=>by rw[ht1,heq hm,z2]
     have oU:=hO.len
     refine⟨_,rfl,cJ,λpc hpc=>?_⟩
     refine⟨pl,pc,_,_,rfl,rfl,by rw[aq (aJ Dp hpc)];exact Dp,aG,by rw[dI,List.length_cons];show _+1<=sizeLine;exact Nat.le_trans (show _<=2000 by omega) (by decide),λpe hpe=>?_⟩
     refine fin pe gs n' _ (s3.trans ((SB.new hpc).trans (SB.new hpe))) ?_ v1 (by omega) ?_ hO
     . have e1:upd H' pc (.lst [.str "}"]) b=some (.lst [.int n']):=by rw[aq (aJ h3 hpc)];exact h3
       rw[aq (aJ e1 hpe)];exact e1
     . rw[aG,<-List.cons_append,jA,c2]
       rfl
 . cases m with
   |false=>
    refine⟨_,rfl,false,rfl,aZ ?_⟩
    exact hB _ _ ⟨r0,zs,n,_,_,_,_,_,rfl,s1,hb1,Int.le_refl _,by omega,hrb,by rw[hr1,z1],List.Perm.refl _,λ_=>rfl⟩
   |true=>
    refine⟨_,rfl,true,rfl,bT ⟨_,rfl,r0,ws,rfl,.inl (aL.of hr1),_,_,rfl,rfl,_,rfl,bN (λc=>?_) (λc=>?_)⟩⟩
    . have c':(1:Int)<(ws.length:Nat):=of_decide_eq_true c
      refine⟨_,rfl,_,rfl,a,b,ns,n,rfl,g.go s1 hb1 (Int.le_refl _),by omega,λr H2 k0 k1 s2 h2=>?_⟩
      have hr2:=s2 _ _ hrb hr1
      obtain⟨j,hj⟩:∃j:Nat,r % (ws.length:Int)=(j:Int):=⟨(r % (ws.length:Int)).toNat,by have:=Int.emod_nonneg r (show(ws.length:Int)≠0 by omega);omega⟩
      have hjl:j<ws.length:=by have:=Int.emod_lt_of_pos r (show(0:Int)<(ws.length:Int) by omega);omega
      refine⟨_,rfl,_,rfl,r0,ws,rfl,.inl (aL.of hr2),_,_,rfl,rfl,by omega,?_⟩
      refine⟨_,rfl,_,rfl,_,rfl,r0,ws,rfl,aL.of hr2,λpa hpa=>?_⟩
      rw[show jX ws (some (r % (ws.length:Int))) none=ws.drop j by rw[hj];exact Yx ws j (by omega)]
      have hab:pa≠b:=λe=>by rw[e,h2] at hpa;cases hpa
      have s3:SB b H (upd H2 pa (.lst (ws.drop j))):=(s1.trans s2).trans (SB.new hpa)
      have h3:upd H2 pa (.lst (ws.drop j)) b=some (.lst [.int (n+1)]):=by rw[aq (Ne.symm hab)];exact h2
      have Dt:upd H2 pa (.lst (ws.drop j)) r0=some (.lst ws):=by rw[aq (aJ hr2 hpa)];exact hr2
      have ha3:upd H2 pa (.lst (ws.drop j)) pa=some (.lst (ws.drop j)):=aG
      generalize upd H2 pa (.lst (ws.drop j))=H3 at *
      refine⟨_,rfl,_,rfl,_,rfl,r0,ws,rfl,aL.of Dt,λpb hpb=>?_⟩
      rw[show jX ws none (some (r % (ws.length:Int)))=ws.take j by rw[hj];exact Yy ws j (by omega)]
      have s4:SB b H (upd H3 pb (.lst (ws.take j))):=s3.trans (SB.new hpb)
      have h4:upd H3 pb (.lst (ws.take j)) b=some (.lst [.int (n+1)]):=by rw[aq (aJ h3 hpb)];exact h3
      have ha4:upd H3 pb (.lst (ws.take j)) pa=some (.lst (ws.drop j)):=by rw[aq (aJ ha3 hpb)];exact ha3
      have hb4:upd H3 pb (.lst (ws.take j)) pb=some (.lst (ws.take j)):=aG
      generalize upd H3 pb (.lst (ws.take j))=H4 at *
      refine⟨pa,pb,_,_,rfl,rfl,ha4,hb4,by rw[List.length_drop,List.length_take];exact Nat.le_trans (show _<=1000 by omega) (by decide),λpc hpc=>?_⟩
      have s5:SB b H (upd H4 pc (.lst (ws.drop j++ws.take j))):=s4.trans (SB.new hpc)
      have h5:upd H4 pc (.lst (ws.drop j++ws.take j)) b=some (.lst [.int (n+1)]):=by rw[aq (aJ h4 hpc)];exact h4
      have hc5:upd H4 pc (.lst (ws.drop j++ws.take j)) pc=some (.lst (ws.drop j++ws.take j)):=aG
      have hcb:pc≠b:=λe=>by rw[e,h4] at hpc;cases hpc
      generalize upd H4 pc (.lst (ws.drop j++ws.take j))=H5 at *
      have YT:(zs.drop j++zs.take j).map (·.1)=ws.drop j++ws.take j:=by rw[List.map_append,List.map_drop,List.map_take,z1]
      have YW:(zs.drop j++zs.take j).Perm zs:=by
       have:=List.perm_append_comm (l₁:=zs.drop j) (l₂:=zs.take j)
       rw[List.take_append_drop] at this
       exact this
      refine⟨_,rfl,_,_,rfl,rfl,⟨by decide,by decide⟩,_,_,rfl,rfl,(by show(0:Int)<_;decide),rfl,_,rfl,bN (λcc=>?_) (λcc=>?_)⟩
      . refine⟨_,rfl,pc,_,rfl,aL.of hc5,λpd hpd=>?_⟩
        have hdb:pd≠b:=λe=>by rw[e,h5] at hpd;cases hpd
        refine hB _ _ ⟨pd,(zs.drop j++zs.take j).reverse,n+1,_,_,_,_,_,rfl,s5.trans (SB.new hpd),by rw[aq (Ne.symm hdb)];exact h5,by omega,Int.le_refl _,hdb,by rw[aG,List.map_reverse,YT],(List.reverse_perm _).trans YW,λe=>nomatch e⟩
      . exact hB _ _ ⟨pc,zs.drop j++zs.take j,n+1,_,_,_,_,_,rfl,s5,h5,by omega,Int.le_refl _,hcb,by rw[hc5,YT],YW,λe=>nomatch e⟩
    . exact hB _ _ ⟨r0,zs,n,_,_,_,_,_,rfl,s1,hb1,Int.le_refl _,by omega,hrb,by rw[hr1,z1],List.Perm.refl _,λ_=>rfl⟩
theorem YX:bR ["_law_script","_law_at","_law_kind_here","_law_mixed","_law_head"] ["_law_script","_law_at","_law_kind_here","_law_mixed"] (aN (top 43)):=cA
theorem ahZ (d:Nat)(T:Tb mg)(gJ:Dn K mg "_law_kind_pieces" ["_law_script","_law_at","_law_kind_here","_law_mixed"] (top 43) qZ q9)(zE:aB P w K mg base aO (2 * d+1) qZ q9 ["_law_script","_law_at","_law_kind_here","_law_mixed"] (zA K d))(iz:Dn K mg "_law_field_pieces" ["_law_script","_law_at","_law_fields_here","_law_mixed"] (top 42) Di Dj)(Jw:aB P w K mg base aO (2 * d+2) Di Dj ["_law_script","_law_at","_law_fields_here","_law_mixed"] (Yz K d)):aB P w K mg base aO (2 * (d+1)+1) qZ q9 ["_law_script","_law_at","_law_kind_here","_law_mixed"] (zA K (d+1)):=by
 refine gJ.F.ok YX (λvs H Q E h=>?_) (λcdv A outer s H vs Q E hr h=>?_)
 . obtain⟨a,b,ns,n,v,k,m,rfl,_⟩:=h
   rfl
 obtain⟨a,b,ns,n,v,k,m,rfl,g,hA,hdp,hN,asC,hn,fin⟩:=h
 have nd:=YX.nd
 refine⟨_,(aC (bF (bh cj (aU bY (pv 2) au (λ_ _=>rfl)) aD (bw _)) (aH (aW (aF eO (bJ (aj aD ak)) (aV zE (hr.mono (by omega)) rfl gJ.m gJ.F.kp gJ.b .nil aY (aj (pv 0) (aj (pv 1) (aj (aU bY (pv 2) au (λ_ _=>rfl)) (aj (pv 3) ak)))))))) bG)
  (aC (bF (bh cj (aU bY (pv 2) au (λ_ _=>rfl)) aD (bw _)) (aH (aW (aV Jw (hr.mono (by omega)) rfl iz.m iz.F.kp iz.b .nil aY (aj (pv 0) (aj (pv 1) (aj (aU bY (pv 2) au (λ_ _=>rfl)) (aj (pv 3) ak))))))) bG)
  (aC (bF (bh cj (aU bY (pv 2) au (λ_ _=>rfl)) aD (bw _)) (aH (aW (aF eO (bJ (aj aD ak)) (aV Jw (hr.mono (by omega)) rfl iz.m iz.F.kp iz.b .nil aY (aj (pv 0) (aj (pv 1) (aj (aU bY (pv 2) au (λ_ _=>rfl)) (aj (pv 3) ak)))))))) bG)
  (aC (bF (bh cj (aU bY (pv 2) au (λ_ _=>rfl)) aD (bw _)) (aC (aQ (i:=4) nd rfl (Or.inl rfl) (bJ (aj aD (aj (aU bY (pv 2) au (λ_ _=>rfl)) ak))))
  (aC (bF (bh wI (aU bY (pv 2) au (λ_ _=>rfl)) aD (bw _)) (aH (aQ (i:=4) nd rfl (Or.inl rfl) (aF eO (pv 4) (bJ (aj aD (aj (aU bY (pv 2) au (λ_ _=>rfl)) ak)))))) bG)
  (aH (aW (aF eO (pv 4) (aV Jw (hr.mono (by omega)) rfl iz.m iz.F.kp iz.b .nil aY (aj (pv 0) (aj (pv 1) (aj (aU bY (pv 2) au (λ_ _=>rfl)) (aj (pv 3) ak)))))))))) bG)
  (aH (aW (bJ (aj (aU bY (pv 2) au (λ_ _=>rfl)) ak)))))))),?_⟩
 have hb:=g.at_
 have nn:∀{s t:Str},s≠t->decide (V.str s=V.str t)=false:=λh=>decide_eq_false λe=>by injection e with e;exact h e
 have yy:∀{s:Str},decide (V.str s=V.str s)=true:=decide_eq_true rfl
 have eN:Str.ofString "number"=ao mG:=by decide +kernel
 have eW:Str.ofString "word"=ao jN:=by decide +kernel
 have eT:Str.ofString "tree"=ao jg:=by decide +kernel
 have eE:Str.ofString "either"=ao eX:=by decide +kernel
 have eR:Str.ofString "rows"=ao cY:=by decide +kernel
 have eB:Str.ofString "by"=ao lu:=by decide +kernel
 have one:∀(l:Addr) (xs:List V),H l=none->SB b H (upd H l (.lst xs))/\upd H l (.lst xs) b=some (.lst [.int n])/\l≠b:=λl xs hl=>⟨SB.new hl,by rw[aq (aJ hb hl)];exact hb,λe=>by rw[e,hb] at hl;cases hl⟩
 cases k with
 |num=>
  unfold KA at hA
  obtain⟨p,rfl,hp⟩:=hA
  refine⟨_,rfl,p,_,_,_,rfl,rfl,aM.of hp,rfl,rfl,_,rfl,?_⟩
  rw[nn (by decide +kernel)]
  refine aZ ?_
  refine⟨_,rfl,p,_,_,_,rfl,rfl,aM.of hp,rfl,rfl,_,rfl,?_⟩
  rw[nn (by decide +kernel)]
  refine aZ ?_
  refine⟨_,rfl,p,_,_,_,rfl,rfl,aM.of hp,rfl,rfl,_,rfl,?_⟩
  rw[nn (by decide +kernel)]
  refine aZ ?_
  refine⟨_,rfl,p,_,_,_,rfl,rfl,aM.of hp,rfl,rfl,_,rfl,?_⟩
  rw[nn (by decide +kernel)]
  refine aZ ?_
  refine⟨_,rfl,p,_,_,_,rfl,rfl,aM.of hp,rfl,cJ,λl hl=>?_⟩
  obtain⟨o1,o2,_⟩:=one l [.str _] hl
  refine fin l .num n _ o1 o2 (Int.le_refl _) (by omega) (by rw[aG,eN];rfl) ⟨by simp[Mx],hN,hdp,rfl,λ_=>rfl⟩
 |bQ=>
  unfold KA at hA
  obtain⟨p,rfl,hp⟩:=hA
  refine⟨_,rfl,p,_,_,_,rfl,rfl,aM.of hp,rfl,rfl,_,rfl,?_⟩
  rw[nn (by decide +kernel)]
  refine aZ ?_
  refine⟨_,rfl,p,_,_,_,rfl,rfl,aM.of hp,rfl,rfl,_,rfl,?_⟩
  rw[nn (by decide +kernel)]
  refine aZ ?_
  refine⟨_,rfl,p,_,_,_,rfl,rfl,aM.of hp,rfl,rfl,_,rfl,?_⟩
  rw[nn (by decide +kernel)]
  refine aZ ?_
  refine⟨_,rfl,p,_,_,_,rfl,rfl,aM.of hp,rfl,rfl,_,rfl,?_⟩
  rw[nn (by decide +kernel)]
  refine aZ ?_
  refine⟨_,rfl,p,_,_,_,rfl,rfl,aM.of hp,rfl,cJ,λl hl=>?_⟩
  obtain⟨o1,o2,_⟩:=one l [.str _] hl
  refine fin l .bQ n _ o1 o2 (Int.le_refl _) (by omega) (by rw[aG,eW];rfl) ⟨by simp[Mx],hN,hdp,rfl,λ_=>rfl⟩
 |bW fs=>
  unfold KA at hA
  obtain⟨p,q,ws,rfl,hp,hq,hF⟩:=hA
  have hlen:(Kd.bW fs).tk.length=fs.tk.length+2:=by
   show(mkT 123::(fs.tk++[mkT 125])).length=_
   simp only[List.length_cons,List.length_append,List.length_nil]
  have hN':fs.N:=by unfold Kd.N at hN;exact hN
  refine⟨_,rfl,p,_,_,_,rfl,rfl,aM.of hp,rfl,rfl,_,rfl,?_⟩
  rw[nn (by decide +kernel)]
  refine aZ ?_
  refine⟨_,rfl,p,_,_,_,rfl,rfl,aM.of hp,rfl,rfl,_,rfl,?_⟩
  rw[yy]
  refine bT ?_
  refine⟨_,rfl,_,rfl,_,rfl,p,_,_,_,rfl,rfl,aM.of hp,rfl,_,rfl,a,b,ns,n,q,ws,fs,m,rfl,g,hq,hF,Nat.le_of_succ_le_succ hdp,hN',by omega,by omega,λl gs n' H' s1 h1 u1 u2 hl hO=>?_⟩
  have oU:=hO.len
  have hgd:=hO.dep
  exact fin l (.bW gs) n' H' s1 h1 u1 (by omega) hl ⟨by unfold Mx;exact hO.mx,by unfold Kd.N;exact hO.n,by show gs.dep+1<=d+1;omega,by
   rw[hlen]
   show(mkT 123::(gs.tk++[mkT 125])).length=_
   simp only[List.length_cons,List.length_append,List.length_nil];omega,λhm=>by rw[hO.eq hm]⟩
 |bV fs=>
  unfold KA at hA
  obtain⟨p,q,ws,rfl,hp,hq,hF⟩:=hA
  have hlen:(Kd.bV fs).tk.length=fs.tk.length+3:=by
   show(aK eX::mkT 123::(fs.tk++[mkT 125])).length=_
   simp only[List.length_cons,List.length_append,List.length_nil]
  have hN':fs.N:=by unfold Kd.N at hN;exact hN
  refine⟨_,rfl,p,_,_,_,rfl,rfl,aM.of hp,rfl,rfl,_,rfl,?_⟩
  rw[nn (by decide +kernel)]
  refine aZ ?_
  refine⟨_,rfl,p,_,_,_,rfl,rfl,aM.of hp,rfl,rfl,_,rfl,?_⟩
  rw[nn (by decide +kernel)]
  refine aZ ?_
  refine⟨_,rfl,p,_,_,_,rfl,rfl,aM.of hp,rfl,rfl,_,rfl,?_⟩
  rw[yy]
  refine bT ?_
  refine⟨cJ,λl0 hl0=>?_⟩
  obtain⟨o1,o2,o3⟩:=one l0 [.str "either"] hl0
  have o4:upd H l0 (.lst [.str "either"]) l0=some (.lst [.str "either"]):=aG
  have tu:=o1.tu hb
  generalize upd H l0 (.lst [.str "either"])=H0 at *
  refine⟨_,rfl,_,rfl,_,rfl,p,_,_,_,rfl,rfl,aM.of (tu _ _ hp),rfl,_,rfl,a,b,ns,n,q,ws,fs,m,rfl,g.go o1 o2 (Int.le_refl _),tu _ _ hq,FA.mono tu _ hF,Nat.le_of_succ_le_succ hdp,hN',by omega,by omega,λl gs n' H' s1 h1 u1 u2 hl hO=>?_⟩
  have oU:=hO.len
  have hgd:=hO.dep
  refine⟨l0,l,_,_,rfl,rfl,s1 _ _ o3 o4,hl,by rw[dI];show 1+_<=sizeLine;exact Nat.le_trans (show _<=2000 by simp only[List.length_cons,List.length_append,List.length_nil];omega) (by decide),λl2 hl2=>?_⟩
  refine fin l2 (.bV gs) n' _ ((o1.trans s1).trans (SB.new hl2)) (by rw[aq (aJ h1 hl2)];exact h1) u1 (by omega) (by rw[aG,eE];rfl) ⟨by unfold Mx;exact hO.mx,by unfold Kd.N;exact hO.n,by show gs.dep+1<=d+1;omega,by
   rw[hlen]
   show(aK eX::mkT 123::(gs.tk++[mkT 125])).length=_
   simp only[List.length_cons,List.length_append,List.length_nil];omega,λhm=>by rw[hO.eq hm]⟩
 |tree k=>
  unfold KA at hA
  obtain⟨p,u,rfl,hp,hu⟩:=hA
  have hlen:(Kd.tree k).tk.length=k.tk.length+1:=rfl
  have hN':k.N:=by unfold Kd.N at hN;exact hN
  refine⟨_,rfl,p,_,_,_,rfl,rfl,aM.of hp,rfl,rfl,_,rfl,?_⟩
  rw[yy]
  refine bT ?_
  refine⟨cJ,λl0 hl0=>?_⟩
  obtain⟨o1,o2,o3⟩:=one l0 [.str "tree"] hl0
  have o4:upd H l0 (.lst [.str "tree"]) l0=some (.lst [.str "tree"]):=aG
  have tu:=o1.tu hb
  generalize upd H l0 (.lst [.str "tree"])=H0 at *
  refine⟨_,rfl,_,rfl,_,rfl,p,_,_,_,rfl,rfl,aM.of (tu _ _ hp),rfl,_,rfl,a,b,ns,n,u,k,m,rfl,g.go o1 o2 (Int.le_refl _),KA.mono tu _ hu,Nat.le_of_succ_le_succ hdp,hN',by omega,by omega,λl t n' H' s1 h1 u1 u2 hl hO=>?_⟩
  have oU:=hO.len
  have hgd:=hO.dep
  refine⟨l0,l,_,_,rfl,rfl,s1 _ _ o3 o4,hl,by rw[dI];show 1+_<=sizeLine;exact Nat.le_trans (show _<=2000 by omega) (by decide),λl2 hl2=>?_⟩
  refine fin l2 (.tree t) n' _ ((o1.trans s1).trans (SB.new hl2)) (by rw[aq (aJ h1 hl2)];exact h1) u1 (by omega) (by rw[aG,eT];rfl) ⟨by unfold Mx;exact hO.mx,by unfold Kd.N;exact hO.n,by show t.dep+1<=d+1;omega,by
   rw[hlen]
   show(aK jg::t.tk).length=_
   simp only[List.length_cons];omega,λhm=>by rw[hO.eq hm]⟩
 |rows key by_ fs=>
  unfold KA at hA
  obtain⟨p,q,ws,rfl,hp,hq,hF⟩:=hA
  have CG:=Jh by_
  have hlen:(Kd.rows key by_ fs).tk.length=fs.tk.length+4+(dD by_).length:=by
   show(aK cY::aK (sl key)::(dD by_++mkT 123::(fs.tk++[mkT 125]))).length=_
   simp only[List.length_cons,List.length_append,List.length_nil];omega
  have hN':bZ (sl key)/\(by_=""\/bZ (sl by_))/\fs.N:=by unfold Kd.N at hN;exact hN
  refine⟨_,rfl,p,_,_,_,rfl,rfl,aM.of hp,rfl,rfl,_,rfl,?_⟩
  rw[nn (by decide +kernel)]
  refine aZ ?_
  refine⟨_,rfl,p,_,_,_,rfl,rfl,aM.of hp,rfl,rfl,_,rfl,?_⟩
  rw[nn (by decide +kernel)]
  refine aZ ?_
  refine⟨_,rfl,p,_,_,_,rfl,rfl,aM.of hp,rfl,rfl,_,rfl,?_⟩
  rw[nn (by decide +kernel)]
  refine aZ ?_
  refine⟨_,rfl,p,_,_,_,rfl,rfl,aM.of hp,rfl,rfl,_,rfl,?_⟩
  rw[yy]
  refine bT ?_
  refine⟨_,rfl,p,_,_,_,rfl,rfl,aM.of hp,rfl,bC,λl0 hl0=>?_⟩
  obtain⟨o1,o2,o3⟩:=one l0 [.str "rows",.str key] hl0
  have o4:upd H l0 (.lst [.str "rows",.str key]) l0=some (.lst [.str "rows",.str key]):=aG
  have tu:=o1.tu hb
  generalize upd H l0 (.lst [.str "rows",.str key])=H0 at *
  dsimp only[gA]
  refine jB (A:=pK _ _ _) (λσ' H'=>∃hd,σ'=[some (.ref a),some (.ref b),some (.ref p),some (.bl m),some (.ref hd)]/\SB b H H'/\H' b=some (.lst [.int n])/\hd≠b/\H' hd=some (.lst (PV (aK cY::aK (sl key)::dD by_)))) ?_ (λhB=>?_)
  . rintro _ H1 ⟨hd,rfl,s1,h1,hdb,hhd⟩
    have Jx:=s1.tu hb
    refine⟨_,rfl,_,rfl,_,rfl,_,rfl,p,_,_,_,rfl,rfl,aM.of (Jx _ _ hp),rfl,_,rfl,a,b,ns,n,q,ws,fs,m,rfl,g.go s1 h1 (Int.le_refl _),Jx _ _ hq,FA.mono Jx _ hF,Nat.le_of_succ_le_succ hdp,hN'.2.2,by omega,by omega,λl gs n' H' s2 h2 u1 u2 hl hO=>?_⟩
    have oU:=hO.len
    have hgd:=hO.dep
    refine⟨hd,l,_,_,rfl,rfl,s2 _ _ hdb hhd,hl,by rw[dI,dI];exact Nat.le_trans (show _<=2000 by simp only[List.length_cons,List.length_append,List.length_nil];omega) (by decide),λl2 hl2=>?_⟩
    refine fin l2 (.rows key by_ gs) n' _ ((s1.trans s2).trans (SB.new hl2)) (by rw[aq (aJ h2 hl2)];exact h2) u1 (by omega) (by rw[aG,<-jA];rfl) ⟨by unfold Mx;exact⟨rfl,rfl,hO.mx⟩,by unfold Kd.N;exact⟨hN'.1,hN'.2.1,hO.n⟩,by show gs.dep+1<=d+1;omega,by
     rw[hlen]
     show(aK cY::aK (sl key)::(dD by_++mkT 123::(gs.tk++[mkT 125]))).length=_
     simp only[List.length_cons,List.length_append,List.length_nil];omega,λhm=>by rw[hO.eq hm]⟩
  . have eh:[V.str (Str.ofString "rows"),V.str key]=PV [aK cY,aK (sl key)]:=by
     show _=[SX cY,SX (sl key)]
     unfold SX
     rw[zB,eR]
    refine⟨_,rfl,p,_,_,_,rfl,rfl,aM.of (tu _ _ hp),rfl,rfl,_,rfl,?_⟩
    by_cases he:by_=""
    . rw[show decide (V.str by_=V.str "")=true by rw[he];exact yy]
      refine aZ (hB _ _ ⟨l0,rfl,o1,o2,o3,?_⟩)
      rw[o4,eh]
      unfold dD
      rw[if_pos he]
    . rw[nn he]
      refine bT ⟨_,rfl,_,rfl,p,_,_,_,rfl,rfl,aM.of (tu _ _ hp),rfl,bC,λl1 hl1=>?_⟩
      refine⟨l0,l1,_,_,rfl,rfl,by rw[aq (aJ o4 hl1)];exact o4,aG,by show 4<=sizeLine;decide,λl2 hl2=>?_⟩
      have e1:upd H0 l1 (.lst [.str "by",.str by_]) b=some (.lst [.int n]):=by rw[aq (aJ o2 hl1)];exact o2
      refine hB _ _ ⟨l2,rfl,o1.trans ((SB.new hl1).trans (SB.new hl2)),by rw[aq (aJ e1 hl2)];exact e1,(λe=>by rw[e,e1] at hl2;cases hl2),?_⟩
      rw[aG,eh]
      unfold dD
      rw[if_neg he]
      refine congrArg (λx=>some (HO.lst x)) ?_
      have e3:[V.str (Str.ofString "by"),V.str by_]=PV [aK lu,aK (sl by_)]:=by
       show _=[SX lu,SX (sl by_)]
       unfold SX
       rw[zB,eB]
      rw[e3,<-jA];rfl
theorem Jy (T:Tb mg)(gJ:Dn K mg "_law_kind_pieces" ["_law_script","_law_at","_law_kind_here","_law_mixed"] (top 43) qZ q9)(iz:Dn K mg "_law_field_pieces" ["_law_script","_law_at","_law_fields_here","_law_mixed"] (top 42) Di Dj)(bA:Dn K mg "_law_next" ["_law_script","_law_at"] (top 34) eU eV):∀d:Nat,aB P w K mg base aO (2 * d+1) qZ q9 ["_law_script","_law_at","_law_kind_here","_law_mixed"] (zA K d)
 |0=>HJ λvs H Q E ⟨_,_,_,_,_,k,_,_,_,_,h,_⟩=>by have:=Kd.Hg k;omega
 |d+1=>ahZ d T gJ (Jy T gJ iz bA d) iz (ahO d T iz gJ (Jy T gJ iz bA d) bA (xR (xT T bA)))
theorem YZ:∀(r:List (Nat × Tk)) (j:Nat),spread r j=spread r 0++List.replicate j 32
 |[],j=>rfl
 |(b,t)::r,j=>by
  show List.replicate b 32++(t.tx++spread r j)=(List.replicate b 32++(t.tx++spread r 0))++_
  rw[YZ r j];simp
theorem Y0:∀(r:List (Nat × Tk)) (m:Nat) (t:Tk),spread (r++[(m,t)]) 0=(spread r 0++List.replicate m 32)++t.tx
 |[],m,t=>by show List.replicate m 32++(t.tx++[])=([]++_)++_;simp
 |(b,u)::r,m,t=>by
  show List.replicate b 32++(u.tx++spread (r++[(m,t)]) 0)=((List.replicate b 32++(u.tx++spread r 0))++_)++_
  rw[Y0 r m t];simp
theorem Y4:∀(r:List (Nat × Tk)) (j:Nat),(∀z∈r,z.1<=2/\z.2.tx.length<=61)->(spread r j).length<=63 * r.length+j
 |[],j,_=>by show(List.replicate j 32).length<=_;rw[List.length_replicate];omega
 |(b,t)::r,j,h=>by
  have a:=h (b,t) List.mem_cons_self
  have c:=Y4 r j λz hz=>h z (List.mem_cons_of_mem _ hz)
  show(List.replicate b 32++(t.tx++spread r j)).length<=63 * (r.length+1)+j
  rw[List.length_append,List.length_append,List.length_replicate]
  have a1:b<=2:=a.1
  have a2:t.tx.length<=61:=a.2
  omega
theorem ah0 {x:Tx}(h:x.head?≠some 33):Txt.lstripChars (ao x) "!"=ao x:=by
 have e:Str.ofString "!"=⟨#[33]⟩:=by decide +kernel
 unfold Txt.lstripChars Txt.stripBy
 rw[e]
 have:stripSame (λc=>(#[33]:Array Nat).contains c) true false (ao x)=true:=by
  unfold stripSame stripLo stripHi
  rw[if_pos rfl,if_neg (by decide)]
  rw[oO]
  have:x.takeWhile (λc=>(#[33]:Array Nat).contains c)=[]:=by
   cases x with
   |nil=>rfl
   |cons c r=>
    rw[List.takeWhile_cons_of_neg]
    intro hc
    have:c=33:=by simpa using hc
    exact h (by rw[this];rfl)
  rw[this]
  simp
 exact if_pos this
theorem Y5 {c:Nat}(h:fu c=true):(!(Builtin.Str.occurrences (Str.ofString "abcdefghijklmnopqrstuvwxyz") ⟨#[c]⟩ 0 (Str.ofString "abcdefghijklmnopqrstuvwxyz").length 1).isEmpty)=true:=by
 rw[PySem.StrLaws.found_one]
 have e:(Str.ofString "abcdefghijklmnopqrstuvwxyz").cps.toList=(List.range 26).map (97+ ·):=by decide +kernel
 rw[e]
 unfold fu at h
 simp only[Bool.and_eq_true,decide_eq_true_eq] at h
 refine decide_eq_true (List.mem_map.mpr ⟨c - 97,List.mem_range.mpr (by omega),by omega⟩)
theorem gF.name {t:Tk}(h:gF t)(h4:t.sort=4):bZ t.tx:=by
 rcases h with⟨c,_,_,rfl⟩|⟨x,hx,rfl⟩
 . cases h4
 . exact hx
structure Du (t:Tk):Prop where
 tt:vo t
 name:t.sort=4->bZ t.tx
theorem gF.l {t:Tk}(h:gF t):Du t:=⟨h.tt,h.name⟩
noncomputable def Y6 (zs:List (Nat × Tk)) (ps:List V):Prop:=∀(i:Nat) z,zs[i]? =some z->ps[i]? =some (.int (((spread (zs.take i) 0).length+z.1:Nat):Int))
noncomputable def Y7 (K:W.Frag):Sp:=λvs H Q _=>∃a b l ns n,∃ts:List Tk,vs=[.ref a,.ref b,.ref l]/\G0 K H a b ns n/\n+2000<=1000000000000/\H l=some (.lst (PV ts))/\(∀t∈ts,Du t)/\ts.length<=1000/\
 ∀(zs:List (Nat × Tk)) (j:Nat) (p q:Addr) (ps:List V) (n':Int) (H':Hp),SB b H H'->H' b=some (.lst [.int n'])->n<=n'->n'<=n+2000->zs.map (·.2)=ts->j8 zs->(spread zs j).length<=64000->H' p=some (.tup [SX (spread zs j),.ref q])->H' q=some (.lst ps)->Y6 zs ps->Q (.ref p) H'
theorem Y8:bR ["_law_script","_law_at","_law_pieces","_law_letters","_law_text","_law_places","_law_k","_law_piece","_law_many"] ["_law_script","_law_at","_law_pieces"] (aN (top 41)):=cA
theorem ah1 (T:Tb mg)(jR:Dn K mg "_law_loose" ["_law_script","_law_at","_law_pieces"] (top 41) Jz JB)(bA:Dn K mg "_law_next" ["_law_script","_law_at"] (top 34) eU eV)(fJ:aB P w K mg base aO (1) eU eV ["_law_script","_law_at"] (lZ K)):aB P w K mg base aO (2) Jz JB ["_law_script","_law_at","_law_pieces"] (Y7 K):=by
 refine jR.F.ok Y8 (λvs H Q E h=>?_) (λcdv A outer s H vs Q E hr h=>?_)
 . obtain⟨a,b,l,ns,n,ts,rfl,_⟩:=h
   rfl
 obtain⟨a,b,l,ns,n,ts,rfl,g,hn,hl,hkt,hts,fin⟩:=h
 have htt:∀t∈ts,vo t:=λt ht=>(hkt t ht).tt
 have nd:=Y8.nd
 refine⟨_,(aC (aQ (i:=3) nd rfl (Or.inl rfl) aD)
  (aC (aQ (i:=4) nd rfl (Or.inl rfl) aD)
  (aC (aQ (i:=5) nd rfl (Or.inl rfl) (bJ ak))
  (aC (lQ PassesOwn.never rfl (Aw rfl T.BL (aj (pv 2) ak)) (rK rfl (fX (dw (i:=6) nd rfl (Or.inl rfl)) (fX (dw (i:=7) nd rfl (Or.inl rfl)) ni))) (aC (aQ (i:=8) nd rfl (Or.inl rfl) (aF dR (aF cC (aV fJ (hr.mono (by omega)) rfl bA.m bA.F.kp bA.b .nil aY (aj (pv 0) (aj (pv 1) ak))) au) au))
  (aC (bF (PW.pt (lO (bh pP (pv 6) au (bw _)) (lO (bh Ai (aU jY (pv 7) au (λ_ _=>rfl)) (pv 3) (by with_unfolding_all rfl)) (oA (bh Ai (aU jY (aU dU (pv 2) (aF lU (pv 6) au) (λ_ _=>rfl)) (Ag Ah au) (λ_ _=>rfl)) (pv 3) (by with_unfolding_all rfl)))))) (aH (aQ (i:=8) nd rfl (Or.inl rfl) (aF gK (pv 8) au))) bG)
  (aC (aQ (i:=4) nd rfl (Or.inl rfl) (aF jG (pv 4) (aF Ax aD (pv 8))))
  (aC (gW (iZ PySem.F.plainAttrs_list PySem.F.slot_list_append PySem.F.type_list_append k_ (pv 5) (aj (gb uK (by rfl) T.jJ PySem.boot_len (aj (pv 4) ak)) ak)))
  (aH (aQ (i:=4) nd rfl (Or.inl rfl) (aF jG (pv 4) (iZ PySem.F.plainAttrs_str PySem.F.slot_str_lstrip PySem.F.type_str_lstrip afT (pv 7) (aj aD ak))))))))))
  (aH (aW (bH (aj (aF jG (pv 4) (aF Ax aD (aF cC (aV fJ (hr.mono (by omega)) rfl bA.m bA.F.kp bA.b .nil aY (aj (pv 0) (aj (pv 1) ak))) au))) (aj (pv 5) ak))))))))),?_⟩
 have hb:=g.at_
 have hlb:l≠b:=by
  intro e
  rw[e,hb] at hl
  injection hl with hl
  injection hl with hl
  cases ts with
  |nil=>cases hl
  |cons t r=>injection hl with hl _;cases hl
 have vJ:Str.ofString " "=ao [32]:=by decide +kernel
 generalize Jg:Str.ofString "abcdefghijklmnopqrstuvwxyz"=LT
 have mo:∀m:Nat,m<=2->MulOk (Str.ofString " ") (m:Int):=λm hm=>by
  have:m=0\/m=1\/m=2:=by omega
  rcases this with e|e|e <;> subst e
  . exact⟨by decide +kernel,λh=>absurd (by decide) h,λh=>absurd (by decide) h⟩
  . exact⟨by decide +kernel,λ_ _=>by decide +kernel,λ_ _=>by decide +kernel⟩
  . exact⟨by decide +kernel,λ_ _=>by decide +kernel,λ_ _=>by decide +kernel⟩
 have hml:∀m:Nat,Txt.mul (Str.ofString " ") (m:Int)=ao (List.replicate m 32):=λm=>by rw[vJ];exact afU 32 m
 have JC:∀{zs:List (Nat × Tk)} {i:Nat},zs.map (·.2)=ts.take i->(∀z∈zs,z.1<=2)->∀j,(spread zs j).length<=63000+j:=λ{zs i} e hz j=>by
  have h1:=Y4 zs j λz hz'=>⟨hz z hz',by
   have:z.2∈ts.take i:=by rw[<-e];exact List.mem_map.mpr ⟨z,hz',rfl⟩
   exact(htt _ (List.mem_of_mem_take this)).2.2⟩
  have h2:zs.length=(ts.take i).length:=by rw[<-e,List.length_map]
  rw[List.length_take] at h2
  omega
 refine⟨um,λq hq=>?_⟩
 have sZ:b≠q:=aJ hb hq
 have hql:l≠q:=aJ hl hq
 have Y9:∀H':Hp,SB b H H'->H' l=some (.lst (PV ts)):=λH' s1=>s1 _ _ hlb hl
 refine⟨_,rfl,l,rfl,⟨_,aL.of (by rw[aq hql];exact hl)⟩,Cd (xs:=PV ts) (λi σ H'=>SB b H H'/\H' b=some (.lst [.int (n+i)])/\∃zs:List (Nat × Tk),∃ps:List V,∃x y z,zs.map (·.2)=ts.take i/\j8 zs/\(∀z∈zs,z.1<=2)/\ps.length=i/\Y6 zs ps/\H' q=some (.lst ps)/\σ=[some (.ref a),some (.ref b),some (.ref l),some (.str LT),some (SX (spread zs 0)),some (.ref q),x,y,z]) ⟨SB.new hq,by rw[aq sZ,hb];simp,[],[],_,_,_,rfl,(λi a b ha=>by cases ha),(λ_ h=>by cases h),rfl,(λi z h=>by cases h),aG,rfl⟩ ?_ ?_ ?_⟩
 . rintro i σ H' _ ⟨s1,_⟩
   exact aL.of (Y9 _ s1)
 . rintro i y σ H' pp hy ⟨s1,h1,zs,ps,x0,y0,z0,hzs,hal,hz2,hps,hpl,hq1,rfl⟩ hpp
   unfold PV at hy
   rw[List.getElem?_map] at hy
   obtain⟨t,ht,rfl⟩:=Option.map_eq_some_iff.mp hy
   have sV:=htt t (List.mem_of_getElem? ht)
   have hi:i<ts.length:=(List.getElem?_eq_some_iff.mp ht).1
   have ex:ts.take (i+1)=ts.take i++[t]:=by rw[List.take_add_one,ht];rfl
   have s2:Same H' (upd H' pp (.tup [.int i,SX t.tx])):=Same.new hpp
   have p2:upd H' pp (.tup [.int i,SX t.tx]) pp=some (.tup [.int i,SX t.tx]):=aG
   have sa:=s1.trans (SB.of s2)
   have h2:=s2 _ _ h1
   have hq2:=s2 _ _ hq1
   generalize upd H' pp (.tup [.int i,SX t.tx])=H2 at *
   refine⟨pp,_,rfl,aM.of p2,rfl,_,_,rfl,_,_,rfl,rfl,?_⟩
   have g2:G0 K H2 a b ns (n+i):=g.go sa h2 (by omega)
   refine⟨_,rfl,_,rfl,a,b,ns,n+i,rfl,g2,by omega,λr H3 r0 r1 s3 h3=>⟨_,_,rfl,rfl,(by show(0:Int)<4;decide),_,_,rfl,rfl,⟨by decide,by decide⟩,?_⟩⟩
   have sb:=sa.trans s3
   have mL:=s3 _ _ (λe=>sZ e.symm) hq2
   have i0:=Int.emod_nonneg r (show(4:Int)≠0 by decide)
   have i1:=Int.emod_lt_of_pos r (show(0:Int)<4 by decide)
   obtain⟨m,hm⟩:∃m:Nat,r % 4 / 2=(m:Int):=⟨(r % 4 / 2).toNat,by omega⟩
   have hm1:m<=1:=by omega
   dsimp only[gA]
   refine jB (λσ' H'=>H'=H3/\∃v:Int,∃k:Nat,k<=2/\v=k/\(∀tp,0<i->ts[i - 1]? =some tp->tp.sort=4->t.sort=4->1<=k)/\σ'=[some (.ref a),some (.ref b),some (.ref l),some (.str LT),some (SX (spread zs 0)),some (.ref q),some (.int i),some (SX t.tx),some (.int v)]) ?_ (λhB=>?_)
   . rintro σ' _ ⟨rfl,_,k,hk,rfl,hk1,rfl⟩
     have hlen:=JC hzs hz2 0
     have Wi:=sV.2.2
     have hl2:(spread zs 0++List.replicate k 32).length<=63002:=by rw[List.length_append,List.length_replicate];omega
     refine⟨_,rfl,_,rfl,_,_,rfl,rfl,mo k hk,_,_,rfl,rfl,by rw[hml];exact sS (by rw[List.length_replicate];omega),?_⟩
     rw[hml,mj]
     refine⟨_,rfl,.inl ⟨rfl,_,aL.of mL⟩,_,rfl,_,rfl,by rw[dB];exact Nat.le_trans hl2 (by decide),q,_,_,rfl,rfl,mL,Nat.lt_of_le_of_lt (show ps.length<=1000 by omega) (by decide),?_⟩
     refine⟨_,rfl,_,rfl,rfl,_,_,rfl,rfl,by rw[dB];exact Nat.le_trans Wi (by decide),?_⟩
     rw[ah0 sV.2.1]
     refine⟨_,_,rfl,rfl,sS (by omega),?_⟩
     rw[mj,<-Y0]
     refine⟨?_,?_,zs++[(k,t)],_,_,_,_,?_,?_,?_,?_,?_,aG,rfl⟩
     . intro c o hc e
       rw[aq (aJ e hq)];exact sb _ _ hc e
     . rw[aq sZ,h3]
       congr 4;omega
     . rw[List.map_append,hzs,ex];rfl
     . refine hal.snoc λa ha h1 h2=>?_
       have el:zs.length=i:=by
        have:=congrArg List.length hzs
        rw[List.length_map,List.length_take] at this
        omega
       have hi0:0<i:=by
        rcases Nat.eq_zero_or_pos i with z|z
        . rw[List.length_eq_zero_iff.mp (el.trans z)] at ha;cases ha
        . exact z
       refine hk1 a.2 hi0 ?_ h1 h2
       rw[List.getLast?_eq_getElem?,el] at ha
       have:=congrArg (λl=>l[i - 1]?) hzs
       rw[List.getElem?_map,ha] at this
       rw[List.getElem?_take_of_lt (by omega)] at this
       exact this.symm
     . intro z hz
       rcases List.mem_append.mp hz with hz|hz
       . exact hz2 z hz
       . rw[List.mem_singleton.mp hz];exact hk
     . rw[List.length_append,hps];rfl
     . have el:zs.length=i:=by
        have:=congrArg List.length hzs
        rw[List.length_map,List.length_take] at this
        omega
       intro i' z hz
       rcases Nat.lt_or_ge i' i with hlt|hge
       . rw[List.getElem?_append_left (by omega)] at hz
         rw[List.getElem?_append_left (by omega),List.take_append_of_le_length (by omega)]
         exact hpl i' z hz
       . have:i'=i:=by
          have:=(List.getElem?_eq_some_iff.mp hz).1
          rw[List.length_append,el] at this
          have:i'<i+1:=this
          omega
         subst this
         rw[List.getElem?_append_right (by omega),el,Nat.sub_self] at hz
         cases hz
         rw[List.getElem?_append_right (by omega),hps,Nat.sub_self,List.take_append_of_le_length (by omega),List.take_of_length_le (by omega)]
         show some (V.int _)=some (V.int _)
         rw[dB,List.length_append,List.length_replicate]
   . refine⟨_,rfl,_,_,rfl,rfl,_,rfl,bN (λc=>?_) (λc=>hB _ _ ⟨rfl,_,m,by omega,hm,λtp h0=>absurd (decide_eq_true (show(0:Int)<(i:Int) by omega)) c,rfl⟩)⟩
     have ci:(0:Int)<(i:Int):=of_decide_eq_true c
     obtain⟨c0,hc0⟩:∃c0,t.tx[0]? =some c0:=⟨_,List.getElem?_eq_getElem (List.length_pos_iff.mpr sV.1)⟩
     have ht0:cM (ao t.tx).cps.toList 0=some c0:=by rw[oO];exact gZ (j:=0) hc0
     obtain⟨tp,htp⟩:∃tp,ts[i - 1]? =some tp:=⟨_,List.getElem?_eq_getElem (by omega)⟩
     have hpm:=htt tp (List.mem_of_getElem? htp)
     have hpv:cM (PV ts) ((i:Int) - 1)=some (SX tp.tx):=by
      have:((i - 1:Nat):Int)=(i:Int) - 1:=by omega
      rw[<-this]
      exact gZ (by unfold PV;rw[List.getElem?_map,htp];rfl)
     refine⟨_,rfl,_,_,_,rfl,rfl,by rw[dB];have:=sV.2.2;exact Nat.le_trans this (by decide),ht0,_,rfl,_,_,rfl,rfl,_,rfl,bN (λc1=>?_) (λc1=>hB _ _ ⟨rfl,_,m,by omega,hm,λtp' _ _ _ h4=>absurd (by rw[<-Jg];exact Y5 (((hkt t (List.mem_of_getElem? ht)).name h4).2.2 c0 (List.mem_of_getElem? hc0))) c1,rfl⟩)⟩
     refine⟨_,rfl,_,rfl,_,_,rfl,rfl,l,_,_,_,rfl,rfl,aL.of (Y9 _ sb),hpv,_,rfl,_,_,_,rfl,rfl,by rw[dB];have:=hpm.2.2;exact Nat.le_trans this (by decide),Al hpm.1,_,rfl,_,_,rfl,rfl,_,rfl,bN (λc2=>?_) (λc2=>hB _ _ ⟨rfl,_,m,by omega,hm,λtp' _ h5 h6 _=>absurd (by rw[<-Jg];rw[htp] at h5;injection h5 with h5;rw[<-h5] at h6;exact Y5 (((hkt tp (List.mem_of_getElem? htp)).name h6).2.2 _ (V7 hpm.1))) c2,rfl⟩)⟩
     exact⟨_,rfl,_,_,rfl,rfl,hB _ _ ⟨rfl,_,m+1,by omega,by rw[hm];rfl,λ_ _ _ _ _=>Nat.le_add_left _ _,rfl⟩⟩
 . rintro σ H' ⟨s1,h1,zs,ps,x0,y0,z0,hzs,hal,hz2,hps,hpl,hq1,rfl⟩
   rw[dI] at h1
   rw[dI,List.take_length] at hzs
   have g1:G0 K H' a b ns (n+ts.length):=g.go s1 h1 (by omega)
   refine⟨_,rfl,_,rfl,_,rfl,a,b,ns,n+ts.length,rfl,g1,by omega,λr H3 r0 r1 s3 h3=>⟨_,_,rfl,rfl,(by show(0:Int)<3;decide),?_⟩⟩
   have i0:=Int.emod_nonneg r (show(3:Int)≠0 by decide)
   have i1:=Int.emod_lt_of_pos r (show(0:Int)<3 by decide)
   obtain⟨j,hj⟩:∃j:Nat,r % 3=(j:Int):=⟨(r % 3).toNat,by omega⟩
   have hj2:j<=2:=by omega
   have Y_:Txt.mul (Str.ofString " ") (r % 3)=ao (List.replicate j 32):=by rw[hj];exact hml j
   have hl3:=JC (i:=ts.length) (by rw[List.take_length];exact hzs) hz2 j
   have hl0:=JC (i:=ts.length) (by rw[List.take_length];exact hzs) hz2 0
   refine⟨_,_,rfl,rfl,(by rw[hj];exact mo j hj2),_,_,rfl,rfl,by rw[Y_];exact sS (by rw[List.length_replicate];omega),?_⟩
   rw[Y_,mj,<-YZ]
   refine⟨_,rfl,bC,λp hp=>?_⟩
   refine fin zs j p q ps (n+ts.length+1) _ ((s1.trans s3).trans (SB.new hp)) (by rw[aq (aJ h3 hp)];exact h3) (by omega) (by omega) hzs hal (by omega) aG (by rw[aq (aJ (s3 _ _ (λe=>sZ e.symm) hq1) hp)];exact s3 _ _ (λe=>sZ e.symm) hq1) hpl
noncomputable def Fs.ao:List (Str × Kd)->Fs
 |[]=>.nil
 |e::r=>.cons e.1 e.2 (Fs.ao r)
theorem Fs.fU:∀(l:List (Str × Kd)),(Fs.ao l).toL=l
 |[]=>rfl
 |e::r=>by show(e.1,e.2)::(Fs.ao r).toL=_;rw[Fs.fU r]
theorem Fs.ah3 (l:List (Str × Kd))(x:Str)(t:Kd):Fs.ao (l++[(x,t)])=(Fs.ao l).snoc x t:=Fs.zy (by rw[Fs.fU,Fs.CV,Fs.fU])
theorem Fs.vK (l:List (Str × Kd)):(Fs.ao l).names=l.map (·.1):=by rw[Fs.o7,Fs.fU]
noncomputable def lH (w:Tx):Prop:=∃c w',w=c::w'/\c≠32/\w.length<=13/\∀p rest,dz iv p c (w'++32::rest)=nG p (c::(w'++32::rest))
theorem ah4:lH [65]:=⟨65,[],rfl,by decide,by decide,λp rest=>rfl⟩
theorem ah5:lH [45]:=⟨45,[],rfl,by decide,by decide,λp rest=>rfl⟩
theorem ah6:lH [126]:=⟨126,[],rfl,by decide,by decide,λp rest=>rfl⟩
theorem ah7:lH [48,48]:=⟨48,[48],rfl,by decide,by decide,λp rest=>rfl⟩
theorem ah8:lH [110,111,112,113,114,115,116,117,118,119,120,121,122]:=⟨110,[111,112,113,114,115,116,117,118,119,120,121,122],rfl,by decide,by decide,λp rest=>rfl⟩
noncomputable def gP (w:Tx):Tk:=⟨1,.str [],32::(w++[32])⟩
theorem ah9 {w:Tx}(h:lH w):Du (gP w):=by
 obtain⟨c,w',e,_,hl,_⟩:=h
 refine⟨⟨List.cons_ne_nil _ _,λz=>?_,?_⟩,λz=>?_⟩
 . have z:some 32=some 33:=z
   cases z
 . show(32::(w++[32])).length<=61
   rw[List.length_cons,List.length_append]
   show w.length+1+1<=61
   omega
 . have z:1=4:=z
   cases z
theorem Za (b:Nat)(t:Tk)(r:List (Nat × Tk))(j:Nat):spread ((b,t)::r) j=List.replicate b 32++(t.tx++spread r j):=rfl
theorem Zb:∀(as:List (Nat × Tk)) (b:Nat) (w:Tx) (bs:List (Nat × Tk)) (j p:Nat),lH w->(∀t∈as,vg t.2)->vh as->
 yq (cI iv p (spread (as++(b,gP w)::bs) j)) 0 (as.map (·.2))/\∃q,(cI iv p (spread (as++(b,gP w)::bs) j))[as.length]? =some q/\q.sort=1/\q.th=.str []/\q.b=p+(spread as 0).length+b+1
 |[],b,w,bs,j,p,hw,_,_=>by
  obtain⟨c,w',e,hc,_,hp⟩:=hw
  refine⟨λk t e=>by simp at e,?_⟩
  have e1:spread ([]++(b,gP w)::bs) j=List.replicate (b+1) 32++(c::(w'++32::spread bs j)):=by
   show List.replicate b 32++((32::(w++[32]))++spread bs j)=_
   rw[e,List.replicate_succ']
   simp
  rw[e1,xQ,Bx hc,hp]
  exact⟨_,rfl,rfl,rfl,by show p+(b+1)=p+0+b+1;omega⟩
 |(b1,t)::r,b,w,bs,j,p,hw,hok,hal=>by
  obtain⟨c,x',e,hc,hp⟩:=hok (b1,t) List.mem_cons_self
  have e':t.tx=c::x':=e
  have hsep:Hx t.sort (spread (r++(b,gP w)::bs) j):=by
   intro d hd
   cases r with
   |nil=>
    have hd:(List.replicate b 32++((32::(w++[32]))++spread bs j)).head? =some d:=hd
    have:d=32:=by
     cases b with
     |zero=>injection hd with hd;exact hd.symm
     |succ b=>injection hd with hd;exact hd.symm
    subst this
    exact⟨λ_=>by decide,λ_=>by decide⟩
   |cons u r=>
    obtain⟨bu,u⟩:=u
    rw[List.cons_append,Za] at hd
    cases bu with
    |succ bu=>cases hd;exact⟨λ_=>by decide,λ_=>by decide⟩
    |zero=>
     have hu:=hok (0,u) (List.mem_cons_of_mem _ List.mem_cons_self)
     have hd2:u.tx.head? =some d:=by
      obtain⟨c2,x2,e2,_⟩:=hu
      have e3:u.tx=c2::x2:=e2
      rw[e3] at hd ⊢
      exact hd
     rcases hal.1 with h|h|h
     . exact⟨λz=>absurd z h.1,λz=>absurd z h.2⟩
     . have:=VR hu h hd2
       exact⟨λ_=>this.1,λ_=>this.2⟩
     . have h:1<=0:=h
       omega
  have yr:vh r:=by
   cases r with
   |nil=>trivial
   |cons u r=>exact hal.2
  have hpc:=hp (p+b1) (spread (r++(b,gP w)::bs) j) hsep
  have Hy:cI iv p (spread ((b1,t)::r++(b,gP w)::bs) j)=⟨t.sort,t.th,p+b1,p+b1+t.tx.length⟩::cI iv (p+b1+t.tx.length) (spread (r++(b,gP w)::bs) j):=by
   show cI iv p (List.replicate b1 32++(t.tx++spread (r++(b,gP w)::bs) j))=_
   rw[xQ,e',List.cons_append,Bx hc,hpc]
   show _::cI iv (p+b1+t.tx.length) ((c::(x'++spread (r++(b,gP w)::bs) j)).drop (p+b1+t.tx.length - (p+b1)))=_
   rw[Nat.add_sub_cancel_left,e',<-List.cons_append,List.drop_left' rfl]
  obtain⟨ih1,q,ih2,ih3,ih4,ih5⟩:=Zb r b w bs j (p+b1+t.tx.length) hw (λu hu=>hok u (List.mem_cons_of_mem _ hu)) yr
  rw[Hy]
  refine⟨λk u eu=>?_,q,ih2,ih3,ih4,?_⟩
  . cases k with
    |zero=>cases eu;exact⟨_,rfl,rfl,rfl⟩
    |succ k=>
     have:=ih1 k u eu
     rw[Nat.zero_add] at this ⊢
     exact this
  . rw[ih5,Za,List.length_append,List.length_append,List.length_replicate];omega
noncomputable def PP (H:Hp) (vs:List V) (es:List (Str × Kd)):Prop:=vs.length=es.length/\∀(i:Nat) e,es[i]? =some e->∃c pl,vs[i]? =some (.ref c)/\H c=some (.tup [.str e.1,.ref pl])/\H pl=some (.lst (PV e.2.tk))
noncomputable def JD:Sp:=λas H Q _=>∃l vs es,as=[.ref l]/\H l=some (.lst vs)/\PP H vs es/\es.length<=13/\(∀e∈es,e.2.tk.length<=700)/\
 ∀r H',Same H H'->H r=none->H' r=some (.lst (PV (mkT 123::((Fs.ao es).tk++[mkT 125]))))->Q (.ref r) H'
theorem Zc {es:List (Str × Kd)}(h:∀e∈es,e.2.tk.length<=700)(i:Nat):(Fs.ao (es.take i)).tk.length<=703 * es.length:=by
 rw[Fs.tW,Fs.fU]
 have h1:=Yt es i
 have h2:∀l:List (Str × Kd),(∀e∈l,e.2.tk.length<=700)->fQ l<=703 * l.length:=λl hl=>by
  induction l with
  |nil=>exact Nat.le_refl _
  |cons e l ih=>
   have a:=hl e List.mem_cons_self
   have b:=ih λe he=>hl e (List.mem_cons_of_mem _ he)
   rw[iQ,List.length_cons];omega
 have:=h2 es h
 omega
theorem Ze:bR ["_law_pairs","_law_pieces","_law_k","_law_pair"] ["_law_pairs"] (aN (top 44)):=cA
theorem ah_ (T:Tb mg)(cH:Dn K mg "_law_listed" ["_law_pairs"] (top 44) zF zG):aB P w K mg base aO (1) zF zG ["_law_pairs"] (JD):=by
 refine cH.F.ok Ze (λvs H Q E h=>?_) (λcdv A outer s H vs Q E hr h=>?_)
 . obtain⟨l,vs',es,rfl,_⟩:=h
   rfl
 obtain⟨l,vs',es,rfl,hl,hPP,h13,JF,fin⟩:=h
 have nd:=Ze.nd
 refine⟨_,(aC (aQ (i:=1) nd rfl (Or.inl rfl) (bJ (aj aD ak)))
  (aC (lQ PassesOwn.never rfl (Aw rfl T.BL (aj (pv 0) ak)) (rK rfl (fX (dw (i:=2) nd rfl (Or.inl rfl)) (fX (dw (i:=3) nd rfl (Or.inl rfl)) ni))) (aC (bF (bh pP (pv 2) au (bw _)) (aH (gW (iZ PySem.F.plainAttrs_list PySem.F.slot_list_append PySem.F.type_list_append k_ (pv 1) (aj aD ak)))) bG)
  (aH (gW (iZ PySem.F.plainAttrs_list PySem.F.slot_list_extend PySem.F.type_list_extend Tw (pv 1) (aj (aF eO (bJ (aj (aU bY (pv 3) au (λ_ _=>rfl)) (aj aD ak))) (aU bY (pv 3) au (λ_ _=>rfl))) ak))))))
  (aH (aW (aF eO (pv 1) (bJ (aj aD ak))))))),?_⟩
 have c1:Str.ofString "{"=ao [123]:=by decide +kernel
 have c2:Str.ofString "}"=ao [125]:=by decide +kernel
 have c3:Str.ofString ","=ao [44]:=by decide +kernel
 have c4:Str.ofString ":"=ao [58]:=by decide +kernel
 refine⟨cJ,λpl hpl=>?_⟩
 have hlp:l≠pl:=aJ hl hpl
 refine⟨_,rfl,l,rfl,⟨_,aL.of (by rw[aq hlp];exact hl)⟩,Cd (xs:=vs') (λi σ H'=>∃(y8 y9:Option V),σ=[some (.ref l),some (.ref pl),y8,y9]/\Same H H'/\H' pl=some (.lst (PV (mkT 123::(Fs.ao (es.take i)).tk)))) ?_ ?_ ?_ ?_⟩
 . exact⟨_,_,rfl,Same.new hpl,by rw[aG,c1];rfl⟩
 . rintro i σ H' _ ⟨_,_,_,s1,_⟩
   exact aL.of (s1 _ _ hl)
 . rintro i y σ H' pp hy ⟨y8,y9,rfl,s1,zH⟩ hpp
   have hi:i<es.length:=by have:=(List.getElem?_eq_some_iff.mp hy).1;rw[hPP.1] at this;exact this
   obtain⟨e,he⟩:∃e,es[i]? =some e:=⟨_,List.getElem?_eq_getElem hi⟩
   obtain⟨cz,pz,hv,hcz,hpz⟩:=hPP.2 i e he
   rw[hy] at hv
   injection hv with hv
   subst hv
   have hem:=JF e (List.mem_of_getElem? he)
   have htk:=Zc JF i
   have aia:es.take (i+1)=es.take i++[e]:=by rw[List.take_add_one,he];rfl
   have sp:Same H' (upd H' pp (.tup [.int i,.ref cz])):=Same.new hpp
   have p3:upd H' pp (.tup [.int i,.ref cz]) pp=some (.tup [.int i,.ref cz]):=aG
   have s2:=s1.trans sp
   have JG:=sp _ _ zH
   generalize upd H' pp (.tup [.int i,.ref cz])=H2 at *
   clear hpp sp
   refine⟨pp,_,rfl,aM.of p3,rfl,_,_,rfl,_,_,rfl,rfl,?_⟩
   dsimp only[gA]
   refine jB (A:=pK _ _ _) (λσ' H'=>σ'=[some (.ref l),some (.ref pl),some (.int i),some (.ref cz)]/\Same H H'/\H' pl=some (.lst (PV (mkT 123::((Fs.ao (es.take i)).tk++if i=0 then [] else [mkT 44]))))) ?_ (λhB=>?_)
   . rintro _ H5 ⟨rfl,s5,nY⟩
     have lG:(PV (mkT 123::((Fs.ao (es.take i)).tk++if i=0 then [] else [mkT 44]))).length<=12000:=by
      rw[dI,List.length_cons,List.length_append]
      split <;> simp only[List.length_nil,List.length_cons] <;> omega
     refine⟨_,rfl,.inl ⟨rfl,_,aL.of nY⟩,_,rfl,cz,_,_,_,rfl,rfl,aM.of (s5 _ _ hcz),rfl,bC,λpq hpq=>?_⟩
     have sq:Same H5 (upd H5 pq (.lst [.str e.1,.str ":"])):=Same.new hpq
     have Jt:upd H5 pq (.lst [.str e.1,.str ":"]) pq=some (.lst [.str e.1,.str ":"]):=aG
     have s6:=s5.trans sq
     have Dr:=sq _ _ nY
     generalize upd H5 pq (.lst [.str e.1,.str ":"])=H6 at *
     refine⟨_,rfl,cz,_,_,_,rfl,rfl,aM.of (s6 _ _ hcz),rfl,pq,pz,_,_,rfl,rfl,Jt,s6 _ _ hpz,by rw[dI];show 2+_<=sizeLine;exact Nat.le_trans (show _<=2000 by omega) (by decide),λpr hpr=>?_⟩
     have Ju:pl≠pr:=aJ Dr hpr
     refine⟨pl,pr,_,_,rfl,rfl,by rw[aq Ju];exact Dr,aG,?_,?_⟩
     . show(PV (mkT 123::((Fs.ao (es.take i)).tk++if i=0 then [] else [mkT 44]))).length+([V.str e.1,V.str ":"]++PV e.2.tk).length<=sizeLine
       rw[List.length_append,dI e.2.tk]
       have:[V.str e.1,V.str ":"].length=2:=rfl
       exact Nat.le_trans (show _<=20000 by omega) (by decide)
     refine⟨_,_,rfl,λc o ho=>?_,?_⟩
     . have h6:=s6 c o ho
       rw[aq (λz=>by rw[z,hpl] at ho;cases ho),aq (aJ h6 hpr)];exact h6
     . rw[aG,aia,Fs.ah3]
       refine congrArg (λx=>some (HO.lst x)) ?_
       have e1:[V.str e.1,V.str ":"]++PV e.2.tk=PV (aK (sl e.1)::mkT 58::e.2.tk):=by
        show V.str e.1::V.str ":"::PV e.2.tk=SX (sl e.1)::SX [58]::PV e.2.tk
        unfold SX
        rw[zB,<-c4]
       rw[e1,<-jA]
       refine congrArg PV ?_
       by_cases hi0:i=0
       . subst hi0
         rw[if_pos rfl]
         show _=mkT 123::(Fs.nil.snoc e.1 e.2).tk
         rw[Fs.Jq]
         rfl
       . have hg:(Fs.ao (es.take i)).toL≠[]:=λz=>by
          rw[Fs.fU] at z
          have:=congrArg List.length z
          rw[List.length_take] at this
          have:min i es.length=0:=this
          omega
         rw[if_neg hi0,Fs.Jr hg]
         simp
   . refine⟨_,rfl,_,_,rfl,rfl,_,rfl,bN (λc=>?_) (λc=>?_)⟩
     . have ci:(0:Int)<(i:Int):=of_decide_eq_true c
       refine⟨_,rfl,.inl ⟨rfl,_,aL.of JG⟩,pl,_,_,rfl,rfl,JG,by rw[dI];exact Nat.lt_of_le_of_lt (show _<=12000 by rw[List.length_cons];omega) (by decide),?_⟩
       refine hB _ _ ⟨rfl,λc o ho=>by rw[aq (λz=>by rw[z,hpl] at ho;cases ho)];exact s2 c o ho,?_⟩
       rw[aG,if_neg (by omega)]
       refine congrArg (λx=>some (HO.lst x)) ?_
       rw[<-List.cons_append,jA]
       refine congrArg (PV (mkT 123::(Fs.ao (es.take i)).tk)++ ·) ?_
       rw[c3];rfl
     . have ci:i=0:=by
        rcases Nat.eq_zero_or_pos i with z|z
        . exact z
        . exact absurd (decide_eq_true (show(0:Int)<(i:Int) by omega)) c
       refine hB _ _ ⟨rfl,s2,?_⟩
       rw[if_pos ci,List.append_nil];exact JG
 . rintro σ H' ⟨y8,y9,rfl,s1,zH⟩
   have htk:=Zc JF vs'.length
   rw[hPP.1,List.take_length] at zH htk
   refine⟨_,rfl,cJ,λpc hpc=>?_⟩
   refine⟨pl,pc,_,_,rfl,rfl,by rw[aq (aJ zH hpc)];exact zH,aG,by rw[dI,List.length_cons];show _+1<=sizeLine;exact Nat.le_trans (show _<=12000 by omega) (by decide),λpe hpe=>?_⟩
   have s3:=(s1.trans (Same.new (o:=.lst [.str "}"]) hpc))
   refine fin pe _ (s3.trans (Same.new hpe)) ?_ ?_
   . cases hh:H pe with
     |none=>rfl
     |some o=>rw[s3 pe o hh] at hpe;cases hpe
   . rw[aG,<-List.cons_append,jA,c2]
     rfl
theorem kE.rfl' {n:Nat}{fs:Fs}(h:∀e∈fs.toL,Mx n e.2 e.2):kE (Mx n) fs fs:=by
 refine⟨fs.toL.map λe=>(e.1,e.2,e.2),?_,?_,λe he=>?_⟩
 . rw[List.map_map]
   have:fs.toL.map ((λe:eY=>(e.1,e.2.1)) ∘ λe:Str × Kd=>(e.1,e.2,e.2))=fs.toL:=by
    conv=>rhs;rw[<-List.map_id fs.toL]
    exact List.map_congr_left λe _=>rfl
   rw[this]
 . rw[List.map_map]
   conv=>lhs;rw[<-List.map_id fs.toL]
   exact List.map_congr_left λe _=>rfl
 . obtain⟨x,hx,rfl⟩:=List.mem_map.mp he
   exact h x hx
theorem Mx.rfl':∀{n:Nat}{k:Kd},k.dep<=n->Mx n k k
 |0,k,h=>absurd h (by have:=k.Hg;omega)
 |n+1,.num,_=>trivial
 |n+1,.bQ,_=>trivial
 |n+1,.tree k,h=>by unfold Mx;exact Mx.rfl' (Nat.le_of_succ_le_succ h)
 |n+1,.bW fs,h=>by
  unfold Mx
  exact kE.rfl' λe he=>Mx.rfl' (Fs.zx (Nat.le_of_succ_le_succ h) e he)
 |n+1,.bV fs,h=>by
  unfold Mx
  exact kE.rfl' λe he=>Mx.rfl' (Fs.zx (Nat.le_of_succ_le_succ h) e he)
 |n+1,.rows key b fs,h=>by
  unfold Mx
  exact⟨rfl,rfl,kE.rfl' λe he=>Mx.rfl' (Fs.zx (Nat.le_of_succ_le_succ h) e he)⟩
theorem mU.of {n:Nat}{fs:Fs}(h:∀e∈fs.toL,e.2.S/\e.2.dep<=n):mU n fs:=by
 refine⟨fs.toL.map λe=>(e.1,e.2,e.2),?_,λe he=>?_⟩
 . rw[List.map_map]
   conv=>lhs;rw[<-List.map_id fs.toL]
   exact List.map_congr_left λe _=>rfl
 . obtain⟨x,hx,rfl⟩:=List.mem_map.mp he
   exact⟨Mx.rfl' (h x hx).2,(h x hx).1⟩
structure nZ (k:Kd):Prop where
 s:k.S
 dep:k.dep<=3
 n:k.N
 fw:k.fw
 dq:k.dq<=3
 tl:k.tk.length<=7
theorem JH:nZ .num:=⟨by simp[Kd.S],by decide,by simp[Kd.N],by simp[Kd.fw],by decide,by decide⟩
theorem Zf:nZ .bQ:=⟨by simp[Kd.S],by decide,by simp[Kd.N],by simp[Kd.fw],by decide,by decide⟩
theorem aib:nZ (.bW .nil):=⟨by simp[Kd.S,Fs.S,Fs.names],by decide,by simp[Kd.N,Fs.N],by simp[Kd.fw,Fs.fw,Fs.names],by decide,by decide⟩
theorem aic:nZ (.tree .bQ):=⟨by simp[Kd.S],by decide,by simp[Kd.N],by simp[Kd.fw],by decide,by decide⟩
theorem aie {x:Str}(h:bZ (sl x)):nZ (.bV (.cons x .num .nil)):=⟨by simp[Kd.S,Fs.S,Fs.names],by simp[Kd.dep,Fs.dep],by simp only[Kd.N,Fs.N];exact⟨h,trivial,trivial⟩,by simp[Kd.fw,Fs.fw,Fs.names],by simp[Kd.dq,Fs.dq],by show(aK eX::mkT 123::(aK (sl x)::mkT 58::([aK mG]++[])++[mkT 125])).length<=7;simp⟩
theorem zJ:dD ""=[]:=if_pos rfl
theorem aif {b:Str}(h:b≠""):dD b=[aK lu,aK (sl b)]:=if_neg h
theorem aii {x:Str}(h:bZ (sl x)):nZ (.rows x "" (.cons x .bQ .nil)):=by
 have hx:=tQ h
 refine⟨?_,by simp[Kd.dep,Fs.dep],?_,by simp[Kd.fw,Fs.fw,Fs.names],by simp[Kd.dq,Fs.dq],?_⟩
 . unfold Kd.S
   refine⟨List.pairwise_singleton _ _,by simp[Fs.names],by simp[Fs.names],⟨.bQ,by simp[Fs.get],trivial⟩,.inl rfl,λe=>hx e.symm,by simp[Fs.S,Kd.S]⟩
 . simp only[Kd.N,Fs.N];exact⟨h,.inl trivial,h,trivial,trivial⟩
 . show(aK cY::aK (sl x)::(dD ""++mkT 123::(aK (sl x)::mkT 58::([aK jN]++[])++[mkT 125]))).length<=7
   rw[zJ];simp
noncomputable def fV (es:List (Str × Kd)):Prop:=es.length<=3/\∀e∈es,bZ (sl e.1)/\nZ e.2
theorem fV.ok {es:List (Str × Kd)}(h:fV es):mU 3 (Fs.ao es):=mU.of λe he=>by rw[Fs.fU] at he;exact⟨(h.2 e he).2.s,(h.2 e he).2.dep⟩
theorem fV.n {es:List (Str × Kd)}(h:fV es):(Fs.ao es).N:=Fs.Dh λe he=>by rw[Fs.fU] at he;exact⟨(h.2 e he).1,(h.2 e he).2.n⟩
theorem Fs.JK:∀{fs:Fs},(∀e∈fs.toL,e.2.fw)->fs.fw
 | .nil,_=>by simp[Fs.fw]
 | .cons x k r,h=>by unfold Fs.fw;exact⟨h _ List.mem_cons_self,Fs.JK λe he=>h e (List.mem_cons_of_mem _ he)⟩
theorem Fs.JL {d:Nat}(hd:1<=d):∀{fs:Fs},(∀e∈fs.toL,e.2.dq<=d)->fs.dq<=d
 | .nil,_=>hd
 | .cons x k r,h=>Nat.max_le.mpr ⟨h _ List.mem_cons_self,Fs.JL hd λe he=>h e (List.mem_cons_of_mem _ he)⟩
theorem fV.fw {es:List (Str × Kd)}(h:fV es):(Fs.ao es).fw:=Fs.JK λe he=>by rw[Fs.fU] at he;exact(h.2 e he).2.fw
theorem fV.dq {es:List (Str × Kd)}(h:fV es):(Fs.ao es).dq<=3:=Fs.JL (by decide) λe he=>by rw[Fs.fU] at he;exact(h.2 e he).2.dq
theorem fV.len {es:List (Str × Kd)}(h:fV es):(Fs.ao es).names.length<=13:=by rw[Fs.vK,List.length_map];have:=h.1;omega
theorem fV.tl {es:List (Str × Kd)}(h:fV es):(Fs.ao es).tk.length<=30:=by
 rw[Fs.tW,Fs.fU]
 have h2:∀l:List (Str × Kd),(∀e∈l,e.2.tk.length<=7)->fQ l<=10 * l.length:=λl hl=>by
  induction l with
  |nil=>exact Nat.le_refl _
  |cons e l ih=>
   have a:=hl e List.mem_cons_self
   have b:=ih λe he=>hl e (List.mem_cons_of_mem _ he)
   rw[iQ,List.length_cons];omega
 have:=h2 es λe he=>(h.2 e he).2.tl
 have:=h.1
 omega
structure RK (n m:Nat) (t:Kd):Prop where
 bad:dj n t
 nn:t.N
 fw:t.fw
 dq:t.dq<=n+1
 tl:t.tk.length<=m
theorem RK.bW {es:List (Str × Kd)}(h:fV es)(hd:¬(es.map (·.1)).Nodup):RK 4 40 (.bW (Fs.ao es)):=by
 have h1:=h.dq
 have h2:=h.tl
 refine⟨.inr ⟨h.ok,by rw[Fs.vK];exact hd⟩,by unfold Kd.N;exact h.n,by unfold Kd.fw;exact⟨h.len,h.fw⟩,by simp only[Kd.dq];omega,?_⟩
 show(mkT 123::((Fs.ao es).tk++[mkT 125])).length<=40
 simp only[List.length_cons,List.length_append,List.length_nil];omega
theorem RK.bV {es:List (Str × Kd)}(h:fV es)(hd:¬(es.map (·.1)).Nodup\/es=[]):RK 4 40 (.bV (Fs.ao es)):=by
 have h1:=h.dq
 have h2:=h.tl
 refine⟨.inr ⟨h.ok,hd.imp (λz=>by rw[Fs.vK];exact z) λz=>by rw[z];rfl⟩,by unfold Kd.N;exact h.n,by unfold Kd.fw;exact⟨h.len,h.fw⟩,by simp only[Kd.dq];omega,?_⟩
 show(aK eX::mkT 123::((Fs.ao es).tk++[mkT 125])).length<=40
 simp only[List.length_cons,List.length_append,List.length_nil];omega
theorem RK.rows {es:List (Str × Kd)}{key b:Str}(h:fV es)(hk:bZ (sl key))(hb:b=""\/bZ (sl b))(hd:¬(es.map (·.1)).Nodup\/(∀t,(key,t)∈es->¬i_ t)\/(b≠""/\∀t,(b,t)∈es->¬i_ t)\/b=key):RK 4 40 (.rows key b (Fs.ao es)):=by
 have h1:=h.dq
 have h2:=h.tl
 have h3:=Jh b
 have pl:∀{x:Str},(∀t,(x,t)∈es->¬i_ t)->¬vD (Fs.ao es) x:=λhx ⟨t,ht,hp⟩=>by rw[Fs.fU] at ht;exact hx t ht hp
 refine⟨.inr ⟨h.ok,hd.imp (λz=>by rw[Fs.vK];exact z) λz=>z.imp pl λz=>z.imp (λy=>⟨y.1,pl y.2⟩) id⟩,by unfold Kd.N;exact⟨hk,hb,h.n⟩,by unfold Kd.fw;exact⟨h.len,h.fw⟩,by simp only[Kd.dq];omega,?_⟩
 show(aK cY::aK (sl key)::(dD b++mkT 123::((Fs.ao es).tk++[mkT 125]))).length<=40
 simp only[List.length_cons,List.length_append,List.length_nil];omega
theorem zK {H:Hp}{c1 c2 p1 p2:Addr}{e1 e2:Str × Kd}(h1:H c1=some (.tup [.str e1.1,.ref p1]))(g1:H p1=some (.lst (PV e1.2.tk)))(h2:H c2=some (.tup [.str e2.1,.ref p2]))(g2:H p2=some (.lst (PV e2.2.tk))):PP H [.ref c1,.ref c2] [e1,e2]:=
 ⟨rfl,λi e he=>match i,he with
   |0,he=>by cases he;exact⟨c1,p1,rfl,h1,g1⟩
   |1,he=>by cases he;exact⟨c2,p2,rfl,h2,g2⟩⟩
theorem Zg {H:Hp}{c1 c2 c3 p1 p2 p3:Addr}{e1 e2 e3:Str × Kd}(h1:H c1=some (.tup [.str e1.1,.ref p1]))(g1:H p1=some (.lst (PV e1.2.tk)))(h2:H c2=some (.tup [.str e2.1,.ref p2]))(g2:H p2=some (.lst (PV e2.2.tk)))(h3:H c3=some (.tup [.str e3.1,.ref p3]))(g3:H p3=some (.lst (PV e3.2.tk))):PP H [.ref c1,.ref c2,.ref c3] [e1,e2,e3]:=
 ⟨rfl,λi e he=>match i,he with
   |0,he=>by cases he;exact⟨c1,p1,rfl,h1,g1⟩
   |1,he=>by cases he;exact⟨c2,p2,rfl,h2,g2⟩
   |2,he=>by cases he;exact⟨c3,p3,rfl,h3,g3⟩⟩
theorem zL (x:Str):V.str x=SX (sl x):=by unfold SX;rw[zB]
theorem dF (s:Str)(w:Tx)(h:s=ao w):V.str s=SX w:=by unfold SX;rw[h]
theorem zM:[V.str (Str.ofString "number")]=PV Kd.num.tk:=by
 show _=[SX mG]
 rw[dF _ mG (by decide +kernel)]
theorem Zh:[V.str (Str.ofString "word")]=PV Kd.bQ.tk:=by
 show _=[SX jN]
 rw[dF _ jN (by decide +kernel)]
theorem aij:[V.str (Str.ofString "{"),V.str (Str.ofString "}")]=PV (Kd.bW .nil).tk:=by
 show _=[SX [123],SX [125]]
 rw[dF (Str.ofString "{") [123] (by decide +kernel),dF (Str.ofString "}") [125] (by decide +kernel)]
theorem aik:[V.str (Str.ofString "tree"),V.str (Str.ofString "word")]=PV (Kd.tree .bQ).tk:=by
 show _=[SX jg,SX jN]
 rw[dF (Str.ofString "tree") jg (by decide +kernel),dF (Str.ofString "word") jN (by decide +kernel)]
theorem ail (x:Str):[V.str (Str.ofString "either"),V.str (Str.ofString "{"),V.str x,V.str (Str.ofString ":"),V.str (Str.ofString "number"),V.str (Str.ofString "}")]=PV (Kd.bV (.cons x .num .nil)).tk:=by
 show _=[SX eX,SX [123],SX (sl x),SX [58],SX mG,SX [125]]
 rw[dF (Str.ofString "either") eX (by decide +kernel),dF (Str.ofString "{") [123] (by decide +kernel),dF (Str.ofString "}") [125] (by decide +kernel),dF (Str.ofString ":") [58] (by decide +kernel),dF (Str.ofString "number") mG (by decide +kernel),zL x]
theorem ain (x:Str):[V.str (Str.ofString "rows"),V.str x,V.str (Str.ofString "{"),V.str x,V.str (Str.ofString ":"),V.str (Str.ofString "word"),V.str (Str.ofString "}")]=PV (Kd.rows x "" (.cons x .bQ .nil)).tk:=by
 have e:(Kd.rows x "" (.cons x .bQ .nil)).tk=[aK cY,aK (sl x),mkT 123,aK (sl x),mkT 58,aK jN,mkT 125]:=by
  show aK cY::aK (sl x)::(dD ""++_)=_
  rw[zJ];rfl
 rw[e]
 show _=[SX cY,SX (sl x),SX [123],SX (sl x),SX [58],SX jN,SX [125]]
 rw[dF (Str.ofString "rows") cY (by decide +kernel),dF (Str.ofString "{") [123] (by decide +kernel),dF (Str.ofString "}") [125] (by decide +kernel),dF (Str.ofString ":") [58] (by decide +kernel),dF (Str.ofString "word") jN (by decide +kernel),zL x]
theorem Zi:[V.str (Str.ofString "either")]=PV [aK eX]:=by
 show _=[SX eX]
 rw[dF (Str.ofString "either") eX (by decide +kernel)]
theorem aio:[V.str (Str.ofString "tree")]=PV [aK jg]:=by
 show _=[SX jg]
 rw[dF (Str.ofString "tree") jg (by decide +kernel)]
theorem Dv (x:Str):[V.str (Str.ofString "rows"),V.str x]=PV [aK cY,aK (sl x)]:=by
 show _=[SX cY,SX (sl x)]
 rw[dF (Str.ofString "rows") cY (by decide +kernel),zL x]
theorem JM (x y:Str):[V.str (Str.ofString "rows"),V.str x,V.str (Str.ofString "by"),V.str y]=PV [aK cY,aK (sl x),aK lu,aK (sl y)]:=by
 show _=[SX cY,SX (sl x),SX lu,SX (sl y)]
 rw[dF (Str.ofString "rows") cY (by decide +kernel),dF (Str.ofString "by") lu (by decide +kernel),zL x,zL y]
theorem aip {ss:List Str}(hl:ss.length=3)(hn:ss.Nodup){t:Int}(h0:0<=t)(h1:t<3):∃x y z,jX (ss.map V.str++ss.map V.str) (some t) (some (t+3))=[.str x,.str y,.str z]/\x≠y/\x≠z/\y≠z/\x∈ss/\y∈ss/\z∈ss:=by
 match ss,hl with
 |[x,y,z],_=>
  simp only[List.nodup_cons,List.mem_cons,List.not_mem_nil,or_false,not_or,List.nodup_nil,and_true,not_false_iff] at hn
  obtain⟨⟨n1,n2⟩,n3⟩:=hn
  have:t=0\/t=1\/t=2:=by omega
  rcases this with rfl|rfl|rfl
  . exact⟨x,y,z,rfl,n1,n2,n3,by simp,by simp,by simp⟩
  . exact⟨y,z,x,rfl,n3,Ne.symm n1,Ne.symm n2,by simp,by simp,by simp⟩
  . exact⟨z,x,y,rfl,Ne.symm n2,Ne.symm n3,n1,by simp,by simp,by simp⟩
theorem new1 {H:Hp}{p:Addr}(h:H p=none)(o:HO):∃H',upd H p o=H'/\Same H H'/\H' p=some o:=⟨_,rfl,Same.new h,aG⟩
theorem news2 {H:Hp}{p1 p2:Addr}{o1:HO}(h1:H p1=none)(h2:upd H p1 o1 p2=none)(o:HO):∃H',upd (upd H p1 o1) p2 o=H'/\Same H H'/\H' p1=some o1/\H' p2=some o:=by
 obtain⟨H1,e1,s1,a1⟩:=new1 h1 o1
 rw[e1] at h2 ⊢
 obtain⟨H2,e2,s2,a2⟩:=new1 h2 o
 exact⟨H2,e2,s1.trans s2,s2 _ _ a1,a2⟩
theorem vL {H:Hp}{p1 p2 p3:Addr}{o1 o2:HO}(h1:H p1=none)(h2:upd H p1 o1 p2=none)(h3:upd (upd H p1 o1) p2 o2 p3=none)(o:HO):∃H',upd (upd (upd H p1 o1) p2 o2) p3 o=H'/\Same H H'/\H' p1=some o1/\H' p2=some o2/\H' p3=some o:=by
 obtain⟨H1,e1,s1,a1,b1⟩:=news2 h1 h2 o2
 rw[e1] at h3 ⊢
 obtain⟨H2,e2,s2,a2⟩:=new1 h3 o
 exact⟨H2,e2,s1.trans s2,s2 _ _ a1,s2 _ _ b1,a2⟩
theorem vM {H:Hp}{p1 p2 p3 p4:Addr}{o1 o2 o3:HO}(h1:H p1=none)(h2:upd H p1 o1 p2=none)(h3:upd (upd H p1 o1) p2 o2 p3=none)(h4:upd (upd (upd H p1 o1) p2 o2) p3 o3 p4=none)(o:HO):∃H',upd (upd (upd (upd H p1 o1) p2 o2) p3 o3) p4 o=H'/\Same H H'/\H' p1=some o1/\H' p2=some o2/\H' p3=some o3/\H' p4=some o:=by
 obtain⟨H1,e1,s1,a1,b1,c1⟩:=vL h1 h2 h3 o3
 rw[e1] at h4 ⊢
 obtain⟨H2,e2,s2,a2⟩:=new1 h4 o
 exact⟨H2,e2,s1.trans s2,s2 _ _ a1,s2 _ _ b1,s2 _ _ c1,a2⟩
theorem JN {H:Hp}{p1 p2 p3 p4 p5:Addr}{o1 o2 o3 o4:HO}(h1:H p1=none)(h2:upd H p1 o1 p2=none)(h3:upd (upd H p1 o1) p2 o2 p3=none)(h4:upd (upd (upd H p1 o1) p2 o2) p3 o3 p4=none)(h5:upd (upd (upd (upd H p1 o1) p2 o2) p3 o3) p4 o4 p5=none)(o:HO):∃H',upd (upd (upd (upd (upd H p1 o1) p2 o2) p3 o3) p4 o4) p5 o=H'/\Same H H'/\H' p1=some o1/\H' p2=some o2/\H' p3=some o3/\H' p4=some o4/\H' p5=some o:=by
 obtain⟨H1,e1,s1,a1,b1,c1,d1⟩:=vM h1 h2 h3 h4 o4
 rw[e1] at h5 ⊢
 obtain⟨H2,e2,s2,a2⟩:=new1 h5 o
 exact⟨H2,e2,s1.trans s2,s2 _ _ a1,s2 _ _ b1,s2 _ _ c1,s2 _ _ d1,a2⟩
theorem Dw (x:Str)(fs:Fs):[aK cY,aK (sl x)]++(mkT 123::(fs.tk++[mkT 125]))=(Kd.rows x "" fs).tk:=by
 show _=aK cY::aK (sl x)::(dD ""++_)
 rw[zJ];rfl
theorem JQ (x b:Str)(hb:b≠"")(fs:Fs):[aK cY,aK (sl x),aK lu,aK (sl b)]++(mkT 123::(fs.tk++[mkT 125]))=(Kd.rows x b fs).tk:=by
 show _=aK cY::aK (sl x)::(dD b++_)
 rw[aif hb];rfl
theorem aiq:[V.str (Str.ofString "either"),V.str (Str.ofString "{"),V.str (Str.ofString "}")]=PV (Kd.bV (Fs.ao [])).tk:=by
 show _=[SX eX,SX [123],SX [125]]
 rw[dF (Str.ofString "either") eX (by decide +kernel),dF (Str.ofString "{") [123] (by decide +kernel),dF (Str.ofString "}") [125] (by decide +kernel)]
theorem PP.mono {H H':Hp}{vs:List V}{es:List (Str × Kd)}(s:Same H H')(h:PP H vs es):PP H' vs es:=⟨h.1,λi e he=>by
 obtain⟨c,pl,h1,h2,h3⟩:=h.2 i e he
 exact⟨c,pl,h1,s _ _ h2,s _ _ h3⟩⟩
end Pb
namespace L2
open PySem PySem.Spec PyProof.Rows
section
variable {X:Cx}{pins:List (Addr × Obj)}{σ:St}{H:Hp}{s:Shared}
theorem Inv.relaid (I:Inv X pins σ H s){h':Heap}{D:Addr}{o:HO}{m:Str->Option Value}{t':Nat}(k:∀b u,b≠X.env.locals->s.heap.get? b=some u->h'.get? b=some u)(hm:s.heap.Ns X.env.locals m)(hm':h'.Ns X.env.locals m)(hD:s.heap.get? D=none)(hDL:D≠X.env.locals)
 (new:eG X.prog X.w (upd H D o) h' D o):Inv X pins σ (upd H D o) { s with heap:=h',toks:=t' }:=by
 have nD:H D=none:=by
  cases e:H D with
  |none=>rfl
  |some u=>
   obtain⟨o',e'⟩:=(I.hok D u e).ex
   rw[hD] at e';cases e'
 have B:=I.base
 have old:∀b u,X.s₀.heap.get? b=some u->b≠X.env.locals:=λb u e z=>by
  have hb:=Heap.lt_size e
  rw[z] at hb
  exact Nat.lt_irrefl _ (Nat.lt_of_lt_of_le hb I.ok.above)
 have ups:∀b u,H b=some u->upd H D o b=some u:=λb u e=>by rw[aq (aJ e nD)];exact e
 obtain⟨m0,n0,lk⟩:=I.loc
 have em:m0=m:=by
  obtain⟨o1,es1,ep1,e1,d1,_,r1⟩:=n0
  obtain⟨o2,es2,ep2,e2,d2,_,r2⟩:=hm
  rw[e1] at e2
  cases e2
  rw[d1] at d2
  cases d2
  funext x
  rw[<-r1,<-r2]
 subst em
 have zN:∀x c,X.env.cells.lookup x=some c->∀v,s.heap.IsCell c v->h'.IsCell c v:=λx c e v hv=>by
  obtain⟨oc,ho,hd⟩:=hv
  exact⟨oc,k c oc (I.jW x c e) ho,hd⟩
 refine⟨I.ok,I.os,I.bare,⟨λb u e n hf hx=>?_,λb u e n hf hx=>?_,λb u e n hx=>?_,λb u e hx=>?_,λb xs e=>ups _ _ (B.tups b xs e),λb u v e=>ups _ _ (B.iT b u v e),λb ps e=>?_⟩,⟨m0,hm',λi x v h1 h2 h3=>?_⟩,λx c e=>?_,by rw[aq (Ne.symm hDL)];exact I.free,λx c e=>?_,λp hp=>?_,λb u e=>?_,I.len⟩
 . exact k b u (old b u e) (B.keep b u e n hf hx)
 . obtain⟨sl,e1⟩:=B.slot b u e n hf hx
   exact⟨sl,k b _ (old b u e) e1⟩
 . obtain⟨o',e1⟩:=B.there b u e hx
   have hbD:b≠D:=λz=>by rw[z,hD] at e1;cases e1
   rw[aq hbD]
   exact B.free b u e n hx
 . obtain⟨o',e1⟩:=B.there b u e hx
   exact⟨o',k b _ (old b u e) e1⟩
 . obtain⟨mo,e1⟩:=B.iU b ps e
   exact⟨mo,ups _ _ e1⟩
 . obtain⟨u,r,l⟩:=lk i x v h1 h2 h3
   refine⟨u,r,?_⟩
   rcases l with l|⟨l1,c,l2,l3⟩
   . exact .inl l
   . exact .inr ⟨l1,c,l2,zN x c l2 _ l3⟩
 . obtain⟨v,hv⟩:=I.cell x c e
   exact⟨v,zN x c e v hv⟩
 . obtain⟨v,oc,ho,_⟩:=I.cell x c e
   have hcD:c≠D:=λz=>by rw[z,hD] at ho;cases ho
   rw[aq hcD]
   exact I.gR x c e
 . obtain⟨p1,p2,p3,p4,p5⟩:=I.pin p hp
   have hpD:p.1≠D:=λz=>by rw[z,hD] at p1;cases p1
   exact⟨k _ _ p3 p1,by rw[aq hpD];exact p2,p3,p4,p5⟩
 . by_cases hb:b=D
   . subst hb
     rw[aG] at e
     cases e
     exact new
   . rw[aq hb] at e
     refine(I.hok b u e).stay (λc v hc q=>k c v (λz=>?_) q) (λc q=>?_) λc xs q=>ups _ _ q
     . have hc':∃v,H c=some v:=by
        rcases hc with z|z
        . exact⟨u,by rw[z];exact e⟩
        . exact⟨_,z⟩
       obtain⟨v',hv⟩:=hc'
       rw[z,I.free] at hv;cases hv
     . exact ups _ _ q
theorem Inv.aiu (I:Inv X pins σ H s){h':Heap}{m:Str->Option Value}{t':Nat}(k:∀b u,b≠X.env.locals->s.heap.get? b=some u->h'.get? b=some u)(hm:s.heap.Ns X.env.locals m)(hm':h'.Ns X.env.locals m):Inv X pins σ H { s with heap:=h',toks:=t' }:=by
 have B:=I.base
 have old:∀b u,X.s₀.heap.get? b=some u->b≠X.env.locals:=λb u e z=>by
  have hb:=Heap.lt_size e
  rw[z] at hb
  exact Nat.lt_irrefl _ (Nat.lt_of_lt_of_le hb I.ok.above)
 obtain⟨m0,n0,lk⟩:=I.loc
 have em:m0=m:=by
  obtain⟨o1,es1,ep1,e1,d1,_,r1⟩:=n0
  obtain⟨o2,es2,ep2,e2,d2,_,r2⟩:=hm
  rw[e1] at e2
  cases e2
  rw[d1] at d2
  cases d2
  funext x
  rw[<-r1,<-r2]
 subst em
 have zN:∀x c,X.env.cells.lookup x=some c->∀v,s.heap.IsCell c v->h'.IsCell c v:=λx c e v hv=>by
  obtain⟨oc,ho,hd⟩:=hv
  exact⟨oc,k c oc (I.jW x c e) ho,hd⟩
 refine⟨I.ok,I.os,I.bare,⟨λb u e n hf hx=>?_,λb u e n hf hx=>?_,λb u e n hx=>B.free b u e n hx,λb u e hx=>?_,B.tups,B.iT,B.iU⟩,⟨m0,hm',λi x v h1 h2 h3=>?_⟩,λx c e=>?_,I.free,I.gR,λp hp=>?_,λb u e=>?_,I.len⟩
 . exact k b u (old b u e) (B.keep b u e n hf hx)
 . obtain⟨sl,e1⟩:=B.slot b u e n hf hx
   exact⟨sl,k b _ (old b u e) e1⟩
 . obtain⟨o',e1⟩:=B.there b u e hx
   exact⟨o',k b _ (old b u e) e1⟩
 . obtain⟨u,r,l⟩:=lk i x v h1 h2 h3
   refine⟨u,r,?_⟩
   rcases l with l|⟨l1,c,l2,l3⟩
   . exact .inl l
   . exact .inr ⟨l1,c,l2,zN x c l2 _ l3⟩
 . obtain⟨v,hv⟩:=I.cell x c e
   exact⟨v,zN x c e v hv⟩
 . obtain⟨p1,p2,p3,p4,p5⟩:=I.pin p hp
   exact⟨k _ _ p3 p1,p2,p3,p4,p5⟩
 . refine(I.hok b u e).stay (λc v hc q=>k c v (λz=>?_) q) (λc q=>q) λc xs q=>q
   have hc':∃v,H c=some v:=by
    rcases hc with z|z
    . exact⟨u,by rw[z];exact e⟩
    . exact⟨_,z⟩
   obtain⟨v',hv⟩:=hc'
   rw[z,I.free] at hv;cases hv
end
noncomputable def vN (base h:Heap) (L:Addr):List (Addr × Obj):=(List.range h.objs.size).filterMap λb=>match h.get? b with
 |some o=>if(b != L && (base.get? b).isNone)=true then some (b,o) else none
 |none=>none
theorem JR {base h:Heap}{L b:Addr}{o:Obj}(e:h.get? b=some o)(hL:b≠L)(hb:base.get? b=none):(b,o)∈vN base h L:=by
 refine List.mem_filterMap.mpr ⟨b,List.mem_range.mpr (Heap.lt_size e),?_⟩
 rw[e]
 dsimp only
 rw[hb,if_pos (by simp[hL])]
theorem Zj {base h:Heap}{L:Addr}{p:Addr × Obj}(e:p∈vN base h L):h.get? p.1=some p.2/\p.1≠L/\base.get? p.1=none:=by
 obtain⟨b,_,hb⟩:=List.mem_filterMap.mp e
 cases hh:h.get? b with
 |none=>rw[hh] at hb;cases hb
 |some o=>
  rw[hh] at hb
  dsimp only at hb
  split at hb
  . rename_i hc
    cases hb
    simp only[Bool.and_eq_true,bne_iff_ne,ne_eq,Option.isNone_iff_eq_none] at hc
    exact⟨hh,hc.1,hc.2⟩
  . cases hb
noncomputable abbrev tX:=Addr × Str × V
noncomputable def Zk (h:Heap) (q:tX):Prop:=∃(o:Obj) (t:Tok) (u:Value) (n:Nat),h.get? q.1=some o/\o.cls=.type "tuple"/\o.data=.seq #[.str q.2.1 t,u] n
theorem Zm {h:Heap}:∀{qs:List tX}{us:List Value},Vals (qs.map λq=>V.ref q.1) us->(∀q∈qs,Zk h q)->∃fs,W.KatTups h us fs/\fs.length=us.length/\∀v∈fs,∃x tk,v=Value.str x tk
 |[],_,.nil,_=>⟨[],W.KatTups.nil,rfl,λv hv=>nomatch hv⟩
 |q::qs,_,.cons a r,h1=>by
  have a:_=Value.ref q.1:=a
  subst a
  obtain⟨fs,f1,f2,f3⟩:=Zm r λq' hq=>h1 q' (List.mem_cons_of_mem _ hq)
  obtain⟨o,t,u,n,ho,hc,hd⟩:=h1 q List.mem_cons_self
  refine⟨_::fs,W.KatTups.cons ho hc hd (by simp;rfl) f1,by rw[List.length_cons,List.length_cons,f2],λv hv=>?_⟩
  rcases List.mem_cons.mp hv with e|e
  . exact⟨_,_,e⟩
  . exact f3 v e
theorem Zn {qs:List tX}{us:List Value}(r:Vals (qs.map λq=>V.ref q.1) us){i:Nat}(hi:i<us.length):∃q,qs[i]? =some q/\us.getD i Value.none=.ref q.1:=by
 have hl:=r.length
 rw[List.length_map] at hl
 have h1:(qs.map λq=>V.ref q.1)[i]? =some (V.ref (qs[i]'(by omega)).1):=by rw[List.getElem?_map,List.getElem?_eq_getElem (by omega)];rfl
 obtain⟨u,e1,e2⟩:=r.get h1
 have e2:u=.ref (qs[i]'(by omega)).1:=e2
 subst e2
 exact⟨qs[i]'(by omega),List.getElem?_eq_getElem (by omega),by rw[List.getD_eq_getElem?_getD,e1];rfl⟩
section
variable {X:Cx}
theorem aiv:lR X (.builtin "sorted") (λxs H Q=>∃(a:Addr) (qs:List tX),xs=[.ref a]/\aL X.K H a (qs.map λq=>V.ref q.1)/\(∀q∈qs,H q.1=some (.tup [.str q.2.1,q.2.2]))/\(qs.map (·.2.1)).Nodup/\2<=qs.length/\qs.length<64/\
 ∀(D:Addr) (bB:List tX),H D=none->bB.Perm qs->(bB.map λq=>cT q.2.1).Pairwise xH->Q (.ref D) (upd H D (.lst (bB.map λq=>V.ref q.1)))):=by
 intro pins s σ H xs us Q I r h
 obtain⟨a,qs,rfl,hq,hpr,hnd,h2,h64,q⟩:=h
 obtain⟨u,rfl,ru⟩:=vals1 r
 cases ru
 obtain⟨its,rv,pl,hz⟩:=I.list hq
 have hlen:its.length=qs.length:=by rw[<-rv.length,List.length_map]
 obtain⟨m,hns,_⟩:=id I.loc
 have fr:Fr X.base X.env.locals s.heap m:=⟨hns,I.bk,Nat.le_trans I.ok.jU I.ok.above⟩
 have nw:News X.base X.env.locals s.heap (vN X.base s.heap X.env.locals):=λp hp=>Zj hp
 refine W.kat_sorted fr nw pl.isList (by omega) (by omega) λD e1 h' fr' zO hlt=>?_
 have kp:∀{h2:Heap},Fr X.base X.env.locals h2 m->(∀p∈vN X.base s.heap X.env.locals,h2.get? p.1=some p.2)->∀b u,b≠X.env.locals->s.heap.get? b=some u->h2.get? b=some u:=λ{h2} f2 n2 b u hb e=>by
  cases hh:X.base.get? b with
  |none=>exact n2 (b,u) (JR e hb hh)
  |some o=>
   have:=I.bk b o hh
   rw[e] at this
   cases this
   exact f2.keep b _ hh
 obtain⟨eD,hDL,bD⟩:=zO (D,seqObj "list" #[] e1) List.mem_cons_self
 have Zo:s.heap.get? D=none:=by
  cases hh:s.heap.get? D with
  |none=>rfl
  |some o=>exact absurd (hlt (D,o) (JR hh hDL bD)) (Nat.lt_irrefl _)
 have k':=kp fr' λp hp=>(zO p (List.mem_cons_of_mem _ hp)).1
 have hpt:∀q∈qs,Zk h' q:=λq hq=>by
  have hH:=hpr q hq
  obtain⟨it2,rv2,⟨o,ho,hc,n,hd⟩,_⟩:=I.tuple (aM.of hH)
  have hqL:q.1≠X.env.locals:=λz=>by rw[z,I.free] at hH;cases hH
  cases rv2 with
  |cons a1 b1=>
   obtain⟨t,rfl⟩:=a1
   cases b1 with
   |cons a2 b2=>
    cases b2
    exact⟨o,t,_,n,k' _ _ hqL ho,hc,hd⟩
 obtain⟨fs,f1,f2,f3⟩:=Zm rv hpt
 refine W.kat_kind (T:=.type "str") f1 (by omega) (λv hv=>?_) rfl ?_
 . obtain⟨x,tk,rfl⟩:=f3 v hv
   exact W.Looks.of_pure rfl
 let key:Nat->Bg.α:=λi=>(qs.map λq=>cT q.2.1).getD i []
 have kq:∀{i:Nat} {q:tX},qs[i]? =some q->key i=cT q.2.1:=λ{i q} e=>by
  show(qs.map λq=>cT q.2.1).getD i []=_
  rw[List.getD_eq_getElem?_getD,List.getElem?_map,e];rfl
 obtain⟨k1,k2⟩:=jt.Ui (O:=Bg) (key:=key) (n:=its.length) (by omega)
 refine jt.Gv (n:=its.length) (R:=λ_=>True) (f:=jt.cg key) (λi j C hi hj qq=>?_) (jt.Ud (by omega)) ?_
 . unfold W.kas_ask
   obtain⟨p,hp,ep⟩:=Zn rv hi
   obtain⟨p',hp',ep'⟩:=Zn rv hj
   rw[ep,ep']
   obtain⟨o,t,u,n,ho,hc,hd⟩:=hpt p (List.mem_of_getElem? hp)
   obtain⟨o',t',u',n',ho',hc',hd'⟩:=hpt p' (List.mem_of_getElem? hp')
   have qq:C (gB (key i) (key j)) _:=qq
   rw[kq hp,kq hp',G3] at qq
   refine W.kat_lt ho hd ho' hd' (W.kat_cons (wpAny_eqBool_str ?_))
   by_cases e:p.2.1=p'.2.1
   . have hij:i=j:=by
      have g1:(qs.map (·.2.1))[i]? =some p.2.1:=by rw[List.getElem?_map,hp];rfl
      have g2:(qs.map (·.2.1))[j]? =some p'.2.1:=by rw[List.getElem?_map,hp'];rfl
      obtain⟨i1,e1⟩:=List.getElem?_eq_some_iff.mp g1
      obtain⟨i2,e2⟩:=List.getElem?_eq_some_iff.mp g2
      exact(List.getElem_inj hnd).mp (e1.trans (e.trans e2.symm))
     subst hij
     rw[hp] at hp'
     cases hp'
     rw[ho] at ho'
     cases ho'
     rw[hd] at hd'
     cases hd'
     rw[decide_eq_false (List.lt_irrefl _)] at qq
     rw[decide_eq_true rfl]
     exact W.kat_yes (W.kat_cons (SeqAt.EqAt.same _ _ _ _ _ (W.kat_yes (W.kat_nil qq))))
   . rw[decide_eq_false e]
     exact W.kat_no (oneLt_str qq)
 . refine⟨_,_,fr',zO,W.UpdF.head λp hp=>Nat.ne_of_lt (hlt p hp),λh4 c pW Zq=>?_⟩
   have pl4:=k1
   generalize hP:(jt.bO (jt.cg key) (W.kas_sort its.length)).toList=pp at *
   obtain⟨eD4,_,_⟩:=Zq (D,_) List.mem_cons_self
   have k4:=kp pW λp hp=>(Zq p (List.mem_cons_of_mem _ hp)).1
   have hpm:∀i∈pp,i<qs.length:=λi hi=>by have:=List.mem_range.mp (k1.mem_iff.mp hi);omega
   let d0:tX:=(0,"",.non)
   have hqm:(pp.map λi=>qs.getD i d0).map (λq=>V.ref q.1)=pp.map λi=>(qs.map λq=>V.ref q.1).getD i .non:=by
    rw[List.map_map]
    refine List.map_congr_left λi hi=>?_
    have:=hpm i hi
    show V.ref (qs.getD i d0).1=_
    rw[List.getD_eq_getElem?_getD,List.getD_eq_getElem?_getD,List.getElem?_map,List.getElem?_eq_getElem this];rfl
   have hperm:(pp.map λi=>qs.getD i d0).Perm qs:=by
    have a:=k1.map λi=>qs.getD i d0
    rw[hlen,GJ d0 qs] at a
    exact a
   have nD:H D=none:=by
    cases e:H D with
    |none=>rfl
    |some u=>
     obtain⟨o',e'⟩:=(I.hok D u e).ex
     rw[Zo] at e';cases e'
   refine⟨.ref D,_,I.relaid (t':=s.toks) (o:=.lst ((pp.map λi=>qs.getD i d0).map λq=>V.ref q.1)) k4 hns pW.ns Zo hDL ⟨?_,_,c,?_,eD4⟩,rfl,q D _ nD hperm ?_⟩
   . rw[List.length_map,hperm.length_eq]
     exact Nat.le_of_lt (wU (by omega))
   . rw[hqm];exact GF rv pp
   . have e:(pp.map λi=>qs.getD i d0).map (λq=>cT q.2.1)=pp.map key:=by
      rw[List.map_map]
      refine List.map_congr_left λi hi=>?_
      have:=hpm i hi
      rw[kq (List.getElem?_eq_getElem this)]
      show cT (qs.getD i d0).2.1=_
      rw[List.getD_eq_getElem?_getD,List.getElem?_eq_getElem this];rfl
     rw[e];exact k2
theorem Inv.aiA {pins:List (Addr × Obj)}{σ:St}{H:Hp}{s:Shared}(I:Inv X pins σ H s){m:Str->Option Value}{h2:Heap}(f2:Fr X.base X.env.locals h2 m)(n2:∀p∈vN X.base s.heap X.env.locals,h2.get? p.1=some p.2):∀b u,b≠X.env.locals->s.heap.get? b=some u->h2.get? b=some u:=λb u hb e=>by
 cases hh:X.base.get? b with
 |none=>exact n2 (b,u) (JR e hb hh)
 |some o=>
  have:=I.bk b o hh
  rw[e] at this
  cases this
  exact f2.keep b _ hh
noncomputable def aiB (K:W.Frag) (n:Nat) (t:oF):TG:=λv σ H Q=>∃a xs,v=.ref a/\aL K H a xs/\xs.length=n/\t xs σ H Q
theorem JT {es:List Expr}{k:Nat}{pos:Pos}{t:oF}{n:Nat}(hc:X.calm=true)(h:wD X es t)
 (hn:(assignEach es X.env).length=n:=by rfl) (hst:(assignEach es X.env).findIdx? (·.1)=none:=by rfl):PG X (.Tuple es k pos) (aiB X.K n t):=by
 intro pins s σ H v u Q I r hw
 obtain⟨a,xs,e1,hq,hl,hw⟩:=hw
 subst e1
 cases r
 obtain⟨its,rv,pl,hz⟩:=I.list hq
 obtain⟨m,hns,_⟩:=id I.loc
 have fr:Fr X.base X.env.locals s.heap m:=⟨hns,I.bk,Nat.le_trans I.ok.jU I.ok.above⟩
 have nw:News X.base X.env.locals s.heap (vN X.base s.heap X.env.locals):=λp hp=>Zj hp
 rw[PyProof.Rows.assign_Tuple]
 refine wpAny_bind (wpAny_standAt ?_)
 unfold PySem.unpack
 rw[hst]
 refine wpAny_bind (wpAny_holding (W.kun_items (n:=(assignEach es X.env).length) fr nw pl.isList (I.ok.hd hc) (by rw[List.size_toArray,<-rv.length,hn,hl]) λh' fr' zO=>?_))
 have I1:Inv X pins σ H { s with heap:=h' }:=I.aiu (t':=s.toks) (I.aiA fr' λp hp=>(zO p hp).1) hns fr'.ns
 exact h pins _ σ H xs _ Q I1 (by simpa using rv) hw
end
end L2
namespace Pb
open PySem L2 PyProof.Rows
noncomputable def Zr (K:W.Frag):Sp:=λvs H Q _=>∃a b ns n,vs=[.ref a,.ref b]/\G0 K H a b ns n/\n<=999999999990/\
 ∀(l:Addr) (t:Kd) (H':Hp),SB b H H'->H' b=some (.lst [.int (n+2)])->l≠b->H' l=some (.lst (PV t.tk))->RK 4 40 t->Q (.ref l) H'
noncomputable def rs (i:Nat):Stmt:=(bI (top 45)).getD i (.Pass ⟨0,0,0,0⟩)
@[irreducible] noncomputable def hC (x:Str) (p:Pos):Expr:=.Constant (.str x) 0 p
theorem jT {X:Cx}{x:Str}{p:Pos}{es:List Expr}{t:L2.TA}(h:PA X es t):PA X (hC x p::es) (iC (tC (.str x)) t):=by unfold hC;exact aj aD h
theorem ebR:bI (top 45)=[rs 0,rs 1,rs 2,rs 3,(Stmt.Assign (targets:=[(Expr.Name "_law_wide" ⟨308,4,308,13⟩)]) (value:=(Expr.List (elts:=[(Expr.List (elts:=[(hC "{" ⟨308,18,308,21⟩),(hC "}" ⟨308,23,308,26⟩)]) (pos:=⟨308,17,308,27⟩)),(Expr.List (elts:=[(hC "tree" ⟨308,30,308,36⟩),(hC "word" ⟨308,38,308,44⟩)]) (pos:=⟨308,29,308,45⟩)),(Expr.List (elts:=[(hC "either" ⟨308,48,308,56⟩),(hC "{" ⟨308,58,308,61⟩),(Expr.Name "_law_b" ⟨308,63,308,69⟩),(hC ":" ⟨308,71,308,74⟩),(hC "number" ⟨308,76,308,84⟩),(hC "}" ⟨308,86,308,89⟩)]) (pos:=⟨308,47,308,90⟩)),(Expr.List (elts:=[(hC "rows" ⟨308,93,308,99⟩),(Expr.Name "_law_a" ⟨308,101,308,107⟩),(hC "{" ⟨308,109,308,112⟩),(Expr.Name "_law_a" ⟨308,114,308,120⟩),(hC ":" ⟨308,122,308,125⟩),(hC "word" ⟨308,127,308,133⟩),(hC "}" ⟨308,135,308,138⟩)]) (pos:=⟨308,92,308,139⟩))]) (pos:=⟨308,16,308,140⟩))) (pos:=⟨308,4,308,140⟩)),rs 5,rs 6,rs 7,rs 8,rs 9,rs 10,rs 11,rs 12,rs 13,rs 14,rs 15,rs 16,rs 17,rs 18]:=by kernel_rfl
variable {P:Program}{w:World}{K:W.Frag}{mg:Str->Option Value}{base:Heap}
theorem Zt:bR ["_law_script","_law_at","_law_names_here","_law_m","_law_turn","_law_a","_law_b","_law_c","_law_wide","_law_plain_here","_law_twice","_law_good","_law_sort"] ["_law_script","_law_at"] (aN (top 45)):=cA
theorem aiD (T:Tb mg)(rm:Dn K mg "_law_rough" ["_law_script","_law_at"] (top 45) JV JW)(dN:Dn K mg "_law_names" ["_law_script","_law_at","_law_many"] (top 35) nU nW)(tU:aB P w K mg base aO (2) nU nW ["_law_script","_law_at","_law_many"] (za K))(bA:Dn K mg "_law_next" ["_law_script","_law_at"] (top 34) eU eV)(fJ:aB P w K mg base aO (1) eU eV ["_law_script","_law_at"] (lZ K))(cH:Dn K mg "_law_listed" ["_law_pairs"] (top 44) zF zG)(lJ:aB P w K mg base aO (1) zF zG ["_law_pairs"] (JD)):aB P w K mg base aO (3) JV JW ["_law_script","_law_at"] (Zr K):=by
 refine rm.F.ok Zt (λvs H Q E h=>?_) (λcdv A outer s H vs Q E hr h=>?_)
 . obtain⟨a,b,ns,n,rfl,_⟩:=h
   rfl
 obtain⟨a,b,ns,n,rfl,g,hn,fin⟩:=h
 have nd:=Zt.nd
 rw[ebR]
 refine⟨_,(aC (aQ (i:=2) nd rfl (Or.inl rfl) (aV tU (hr.mono (by omega)) rfl dN.m dN.F.kp dN.b .nil aY (aj (pv 0) (aj (pv 1) (aj au ak)))))
  (aC (aQ (i:=3) nd rfl (Or.inl rfl) (aV fJ (hr.mono (by omega)) rfl bA.m bA.F.kp bA.b .nil aY (aj (pv 0) (aj (pv 1) ak))))
  (aC (aQ (i:=4) nd rfl (Or.inl rfl) (aF cC (pv 3) au))
  (aC (uw (lV wN (aF eO (pv 2) (pv 2)) (iY (pv 4)) (iY (aF gK (pv 4) au))) (JT rfl (fX (dw (i:=5) nd rfl (Or.inl rfl)) (fX (dw (i:=6) nd rfl (Or.inl rfl)) (fX (dw (i:=7) nd rfl (Or.inl rfl)) ni)))))
  (aC (aQ (i:=8) nd rfl (Or.inl rfl) (bJ (aj (bJ (jT (jT ak))) (aj (bJ (jT (jT ak))) (aj (bJ (jT (jT (aj (pv 6) (jT (jT (jT ak))))))) (aj (bJ (jT (aj (pv 5) (jT (aj (pv 5) (jT (jT (jT ak)))))))) ak))))))
  (aC (aQ (i:=8) nd rfl (Or.inl rfl) (aU dU (pv 8) (aF cC (aF dR (pv 3) au) au) (λ_ _=>rfl)))
  (aC (aQ (i:=9) nd rfl (Or.inl rfl) (aU dU (bJ (aj (bJ (aj aD ak)) (aj (bJ (aj aD ak)) ak))) (aF cC (aF dR (pv 3) au) au) (λ_ _=>rfl)))
  (aC (aQ (i:=10) nd rfl (Or.inl rfl) (bJ (aj (bH (aj (pv 5) (aj (pv 9) ak))) (aj (bH (aj (pv 6) (aj (pv 8) ak))) (aj (bH (aj (pv 5) (aj (aU dU (bJ (aj (bJ (aj aD ak)) (aj (bJ (aj aD ak)) (aj (pv 9) ak)))) (aF cC (aF dR (pv 3) au) au) (λ_ _=>rfl)) ak))) ak)))))
  (aC (aQ (i:=11) nd rfl (Or.inl rfl) (bJ (aj (bH (aj (pv 5) (aj (pv 9) ak))) (aj (bH (aj (pv 6) (aj (bJ (aj aD ak)) ak))) ak))))
  (aC (aQ (i:=12) nd rfl (Or.inl rfl) (aF cC (aF dR (pv 3) au) au))
  (aC (bF (bh cj (pv 12) au (bw _)) (aH (aW (aV lJ (hr.mono (by omega)) rfl cH.m cH.F.kp cH.b .nil aY (aj (pv 10) ak)))) bG)
  (aC (bF (bh cj (pv 12) au (bw _)) (aH (aW (bJ (aj aD (aj aD (aj aD ak)))))) bG)
  (aC (bF (bh cj (pv 12) au (bw _)) (aH (aW (aF eO (bJ (aj aD ak)) (aV lJ (hr.mono (by omega)) rfl cH.m cH.F.kp cH.b .nil aY (aj (pv 10) ak))))) bG)
  (aC (bF (bh cj (pv 12) au (bw _)) (aH (aW (aF eO (bJ (aj aD (aj (pv 7) ak))) (aV lJ (hr.mono (by omega)) rfl cH.m cH.F.kp cH.b .nil aY (aj (pv 11) ak))))) bG)
  (aC (bF (bh cj (pv 12) au (bw _)) (aH (aW (aF eO (bJ (aj aD (aj (pv 6) ak))) (aV lJ (hr.mono (by omega)) rfl cH.m cH.F.kp cH.b .nil aY (aj (bJ (aj (bH (aj (pv 5) (aj (pv 9) ak))) (aj (bH (aj (pv 6) (aj (pv 8) ak))) ak))) ak))))) bG)
  (aC (bF (bh cj (pv 12) au (bw _)) (aH (aW (aF eO (bJ (aj aD (aj (pv 5) (aj aD (aj (pv 5) ak))))) (aV lJ (hr.mono (by omega)) rfl cH.m cH.F.kp cH.b .nil aY (aj (pv 11) ak))))) bG)
  (aC (bF (bh cj (pv 12) au (bw _)) (aH (aW (aF eO (bJ (aj aD (aj (pv 5) (aj aD (aj (pv 7) ak))))) (aV lJ (hr.mono (by omega)) rfl cH.m cH.F.kp cH.b .nil aY (aj (pv 11) ak))))) bG)
  (aC (bF (bh cj (pv 12) au (bw _)) (aH (aW (aF eO (bJ (aj aD (aj (pv 5) (aj aD (aj (pv 6) ak))))) (aV lJ (hr.mono (by omega)) rfl cH.m cH.F.kp cH.b .nil aY (aj (bJ (aj (bH (aj (pv 6) (aj (pv 8) ak))) (aj (bH (aj (pv 5) (aj (pv 9) ak))) ak))) ak))))) bG)
  (aH (aW (aF eO (bJ (aj aD (aj (aU dU (bJ (aj (pv 5) (aj (pv 6) ak))) (aF cC (aF dR (pv 3) au) au) (λ_ _=>rfl)) ak))) (aV lJ (hr.mono (by omega)) rfl cH.m cH.F.kp cH.b .nil aY (aj (bJ (aj (bH (aj (pv 5) (aj (pv 9) ak))) (aj (bH (aj (pv 6) (aj (pv 9) ak))) (aj (bH (aj (aU dU (bJ (aj (pv 5) (aj (pv 6) ak))) (aF cC (aF dR (pv 3) au) au) (λ_ _=>rfl)) (aj (pv 9) ak))) ak)))) ak))))))))))))))))))))))),?_⟩
 refine⟨_,rfl,_,rfl,a,b,ns,n,3,rfl,by omega,g,by omega,λp ss H1 s1 h1 hpb hp hl hnd hsr hnm=>?_⟩
 refine⟨_,rfl,_,rfl,a,b,ns,n+1,rfl,g.go s1 h1 (by omega),by omega,λm H2 m0 m1 s2 h2=>?_⟩
 have hp2:=s2 _ _ hpb hp
 dsimp only[gA]
 refine jB (A:=nj _ _) (λσ' H'=>σ'=[some (.ref a),some (.ref b),some (.ref p),some (.int m),some (.int (m % 3)),none,none,none,none,none,none,none,none]/\H2=H') ?_ (λhB=>⟨_,rfl,_,_,rfl,rfl,(by show(0:Int)<_;decide),hB _ _ ⟨rfl,rfl⟩⟩)
 rintro _ _ ⟨rfl,rfl⟩
 have sH2:=s1.trans s2
 have h22:H2 b=some (.lst [.int (n+2)]):=by rw[h2];congr 4;omega
 clear s1 h1 hp s2 h2
 refine⟨_,rfl,_,rfl,p,p,_,_,rfl,rfl,hp2,hp2,by rw[List.length_map,hl];decide,λq hq=>?_⟩
 refine⟨_,rfl,_,rfl,_,rfl,_,_,rfl,rfl,_,rfl,q,_,rfl,aL.of aG,λq2 hq2=>?_⟩
 obtain⟨xa,xb,xc,aiF,nab,nac,nbc,ma,mb,mc⟩:=aip hl hnd (t:=m % 3) (by omega) (by omega)
 rw[aiF] at *
 obtain⟨H3,zP,s3,_,eq2⟩:=news2 hq hq2 (.lst [.str xa,.str xb,.str xc])
 rw[zP]
 clear zP
 have hxa:=hnm _ ma
 have hxb:=hnm _ mb
 have hxc:=hnm _ mc
 have hb3:=s3 _ _ h22
 have sA:=sH2.trans (SB.of (b:=b) s3)
 refine⟨q2,_,rfl,aL.of eq2,rfl,_,_,rfl,_,_,rfl,_,_,rfl,rfl,?_⟩
 dsimp only[gA]
 refine⟨bC,λp1 hp1=>⟨bC,λp2 hp2=>⟨_,rfl,Fg,λp3 hp3=>⟨_,rfl,_,rfl,abX,λp4 Zu=>⟨gw,λp5 kj=>?_⟩⟩⟩⟩⟩
 obtain⟨H4,Dy,s4,e1,e2,e3,e4,e5⟩:=JN hp1 hp2 hp3 Zu kj (.lst [.ref p1,.ref p2,.ref p3,.ref p4])
 rw[Dy]
 clear Dy hp1 hp2 hp3 Zu kj
 obtain⟨pw,kw,CQ,Zv,fw,Zw⟩:∃pw kw,cM [V.ref p1,.ref p2,.ref p3,.ref p4] (m / 3 % 4)=some (.ref pw)/\H4 pw=some (.lst (PV kw.tk))/\nZ kw/\¬i_ kw:=by
  have:m / 3 % 4=0\/m / 3 % 4=1\/m / 3 % 4=2\/m / 3 % 4=3:=by omega
  rcases this with e|e|e|e <;> rw[e]
  . exact⟨p1,.bW .nil,rfl,by rw[e1,aij],aib,λz=>z⟩
  . exact⟨p2,.tree .bQ,rfl,by rw[e2,aik],aic,λz=>z⟩
  . exact⟨p3,_,rfl,by rw[e3,ail],aie hxb,λz=>z⟩
  . exact⟨p4,_,rfl,by rw[e4,ain],aii hxa,λz=>z⟩
 dsimp only[gA]
 refine jB (A:=nj _ _) (λσ' H'=>σ'=[some (.ref a),some (.ref b),some (.ref p),some (.int m),some (.int (m % 3)),some (.str xa),some (.str xb),some (.str xc),some (.ref pw),none,none,none,none]/\H4=H') ?_ (λhB=>⟨_,rfl,_,rfl,_,_,rfl,rfl,⟨by decide,by decide⟩,_,_,rfl,rfl,(by show(0:Int)<_;decide),p5,_,_,_,rfl,rfl,aL.of e5,CQ,hB _ _ ⟨rfl,rfl⟩⟩)
 rintro _ _ ⟨rfl,rfl⟩
 refine⟨cJ,λq3 mL=>⟨cJ,λq4 gO=>⟨bC,λq5 JX=>?_⟩⟩⟩
 obtain⟨H5,Dz,s5,a1,a2,a3⟩:=vL mL gO JX (.lst [.ref q3,.ref q4])
 rw[Dz]
 clear Dz mL gO JX e1 e2 e3 e4 e5
 obtain⟨pp,kp,hpp,hHp,fp,npp⟩:∃pp kp,cM [V.ref q3,.ref q4] (m / 12 % 2)=some (.ref pp)/\H5 pp=some (.lst (PV kp.tk))/\nZ kp/\i_ kp:=by
  have:m / 12 % 2=0\/m / 12 % 2=1:=by omega
  rcases this with e|e <;> rw[e]
  . exact⟨q3,.num,rfl,by rw[a1,zM],JH,trivial⟩
  . exact⟨q4,.bQ,rfl,by rw[a2,Zh],Zf,trivial⟩
 refine⟨_,rfl,_,_,rfl,rfl,⟨by decide,by decide⟩,_,_,rfl,rfl,(by show(0:Int)<_;decide),q5,_,_,_,rfl,rfl,aL.of a3,hpp,?_⟩
 refine⟨_,rfl,_,rfl,bC,λt1 ht1=>⟨_,rfl,_,rfl,bC,λt2 jm=>⟨_,rfl,cJ,λr1 hr1=>⟨cJ,λr2 hr2=>⟨_,rfl,zZ,λr3 Dt=>?_⟩⟩⟩⟩⟩
 obtain⟨H6,n8,s6,b1,b2,b3,b4,b5⟩:=JN ht1 jm hr1 hr2 Dt (.lst [.ref r1,.ref r2,.ref pp])
 rw[n8]
 clear n8 ht1 jm hr1 hr2 Dt a1 a2 a3
 have Zx:=s6 _ _ hHp
 have asH:=s6 _ _ (s5 _ _ Zv)
 obtain⟨pt,kt,hpt,hHt,ft⟩:∃pt kt,cM [V.ref r1,.ref r2,.ref pp] (m / 24 % 3)=some (.ref pt)/\H6 pt=some (.lst (PV kt.tk))/\nZ kt:=by
  have:m / 24 % 3=0\/m / 24 % 3=1\/m / 24 % 3=2:=by omega
  rcases this with e|e|e <;> rw[e]
  . exact⟨r1,.bQ,rfl,by rw[b3,Zh],Zf⟩
  . exact⟨r2,.num,rfl,by rw[b4,zM],JH⟩
  . exact⟨pp,kp,rfl,Zx,fp⟩
 refine⟨_,rfl,_,_,rfl,rfl,⟨by decide,by decide⟩,_,_,rfl,rfl,(by show(0:Int)<_;decide),r3,_,_,_,rfl,rfl,aL.of b5,hpt,?_⟩
 refine⟨bC,λt3 jh=>⟨zZ,λtw htw=>?_⟩⟩
 obtain⟨H7,Zy,s7,b6,b7⟩:=news2 jh htw (.lst [.ref t1,.ref t2,.ref t3])
 rw[Zy]
 clear Zy jh htw
 refine⟨_,rfl,_,rfl,bC,λt4 DG=>⟨_,rfl,cJ,λr4 Zz=>⟨bC,λt5 qJ=>⟨bC,λgd hgd=>?_⟩⟩⟩⟩
 obtain⟨H8,mZ,s8,c1,c2,c3,c4⟩:=vM DG Zz qJ hgd (.lst [.ref t4,.ref t5])
 rw[mZ]
 clear mZ DG Zz qJ hgd
 have JZ:=s5.trans (s6.trans (s7.trans s8))
 have DK:=s7.trans s8
 have hb8:=JZ _ _ (s4 _ _ hb3)
 have J0:=JZ _ _ Zv
 have hp8:=DK _ _ Zx
 have sB:=sA.trans (SB.of (b:=b) (s4.trans JZ))
 have PT:PP H8 [.ref t1,.ref t2,.ref t3] [(xa,kp),(xb,kw),(xa,kt)]:=Zg (DK _ _ b1) hp8 (DK _ _ b2) J0 (s8 _ _ b6) (DK _ _ hHt)
 have PG:PP H8 [.ref t4,.ref t5] [(xa,kp),(xb,.num)]:=zK c1 hp8 c3 (by rw[c2,zM])
 have htw:=s8 _ _ b7
 have F:∀(l:Addr) (t:Kd) (H':Hp),Same H8 H'->H8 l=none->H' l=some (.lst (PV t.tk))->RK 4 40 t->Q (.ref l) H':=λl t H' s' hl e rk=>fin l t H' (sB.trans (SB.of s')) (s' _ _ hb8) (λz=>by rw[z,hb8] at hl;cases hl) e rk
 have non:∀{H':Hp} {p:Addr},Same H8 H'->H' p=none->H8 p=none:=λ{H' p} s' h=>by
  cases e:H8 p with
  |none=>rfl
  |some o=>rw[s' _ _ e] at h;cases h
 have C:∀(l1 r:Addr) (hk:List Tk) (es:List (Str × Kd)) (t:Kd) (H9 H':Hp),Same H8 H9->H9 l1=some (.lst (PV hk))->Same H9 H'->H' r=some (.lst (PV (mkT 123::((Fs.ao es).tk++[mkT 125]))))->hk++(mkT 123::((Fs.ao es).tk++[mkT 125]))=t.tk->RK 4 40 t->Tz (.ref l1) (.ref r) H' Q:=λl1 r hk es t H9 H' s9 hl1 s' hr e rk=>by
  refine⟨l1,r,_,_,rfl,rfl,s' _ _ hl1,hr,?_,λp hp=>F p t _ ((s9.trans s').trans (Same.new hp)) (non (s9.trans s') hp) (by rw[aG,<-jA,e]) rk⟩
  rw[<-List.length_append,<-jA,e,dI]
  exact Nat.le_trans rk.tl (by decide)
 have lK:∀{es:List (Str × Kd)},fV es->es.length<=13:=λh=>by have:=h.1;omega
 have l7:∀{es:List (Str × Kd)},fV es->∀e∈es,e.2.tk.length<=700:=λh e he=>Nat.le_trans (h.2 e he).2.tl (by decide)
 have vO:fV [(xa,kp),(xb,kw),(xa,kt)]:=⟨by simp,λe he=>by
  rcases List.mem_cons.mp he with rfl|he
  . exact⟨hxa,fp⟩
  rcases List.mem_cons.mp he with rfl|he
  . exact⟨hxb,fw⟩
  rw[List.mem_singleton.mp he];exact⟨hxa,ft⟩⟩
 have o9:fV [(xa,kp),(xb,.num)]:=⟨by simp,λe he=>by
  rcases List.mem_cons.mp he with rfl|he
  . exact⟨hxa,fp⟩
  rw[List.mem_singleton.mp he];exact⟨hxb,JH⟩⟩
 have ZC:¬(([(xa,kp),(xb,kw),(xa,kt)]:List (Str × Kd)).map (·.1)).Nodup:=λz=>by simp at z
 have ZD:∀t,(xc,t)∈([(xa,kp),(xb,.num)]:List (Str × Kd))->¬i_ t:=λt ht=>by
  rcases List.mem_cons.mp ht with h|h
  . cases h;exact absurd rfl nac
  . cases List.mem_singleton.mp h;exact absurd rfl nbc
 have ZF:=tQ hxb
 have ZG:=tQ hxc
 have aiK:=tQ hxa
 dsimp only[gA]
 refine jB (A:=nj _ _) (λσ' H'=>σ'=[some (.ref a),some (.ref b),some (.ref p),some (.int m),some (.int (m % 3)),some (.str xa),some (.str xb),some (.str xc),some (.ref pw),some (.ref pp),some (.ref tw),some (.ref gd),some (.int (m / 72 % 9))]/\H8=H') ?_ (λhB=>⟨_,rfl,_,_,rfl,rfl,⟨by decide,by decide⟩,_,_,rfl,rfl,(by show(0:Int)<_;decide),hB _ _ ⟨rfl,rfl⟩⟩)
 rintro _ _ ⟨rfl,rfl⟩
 refine⟨_,rfl,rfl,_,rfl,bN (λ_=>?_) (λ_=>?_)⟩
 . exact⟨_,rfl,tw,_,_,rfl,htw,PT,lK vO,l7 vO,λr H' s' hn hr=>F r (.bW (Fs.ao _)) H' s' hn hr (RK.bW vO ZC)⟩
 refine⟨_,rfl,rfl,_,rfl,bN (λ_=>?_) (λ_=>?_)⟩
 . exact⟨zZ,λl1 hl1=>F l1 _ _ (Same.new hl1) hl1 (by rw[aG,<-aiq]) (RK.bV (es:=[]) ⟨by decide,λe he=>nomatch he⟩ (.inr rfl))⟩
 refine⟨_,rfl,rfl,_,rfl,bN (λ_=>?_) (λ_=>?_)⟩
 . refine⟨cJ,λl1 hl1=>?_⟩
   obtain⟨H9,kJ,s9,d1⟩:=new1 hl1 (.lst [.str "either"])
   rw[kJ]
   exact⟨_,rfl,tw,_,_,rfl,s9 _ _ htw,PT.mono s9,lK vO,l7 vO,λr H' s' hn hr=>C l1 r [aK eX] _ (.bV (Fs.ao _)) H9 H' s9 (by rw[d1,Zi]) s' hr rfl (RK.bV vO (.inl ZC))⟩
 refine⟨_,rfl,rfl,_,rfl,bN (λ_=>?_) (λ_=>?_)⟩
 . refine⟨_,rfl,bC,λl1 hl1=>?_⟩
   obtain⟨H9,kJ,s9,d1⟩:=new1 hl1 (.lst [.str "rows",.str xc])
   rw[kJ]
   exact⟨_,rfl,gd,_,_,rfl,s9 _ _ c4,PG.mono s9,lK o9,l7 o9,λr H' s' hn hr=>C l1 r _ _ (.rows xc "" (Fs.ao _)) H9 H' s9 (by rw[d1,Dv]) s' hr (Dw _ _) (RK.rows o9 hxc (.inl rfl) (.inr (.inl ZD)))⟩
 refine⟨_,rfl,rfl,_,rfl,bN (λ_=>?_) (λ_=>?_)⟩
 . refine⟨_,rfl,bC,λl1 hl1=>?_⟩
   obtain⟨H9,kJ,s9,d1⟩:=new1 hl1 (.lst [.str "rows",.str xb])
   rw[kJ]
   refine⟨_,rfl,_,rfl,bC,λu1 hu1=>⟨_,rfl,_,rfl,bC,λu2 hu2=>⟨bC,λul pX=>?_⟩⟩⟩
   obtain⟨vP,zQ,rA,f1,f2,f3⟩:=vL hu1 hu2 pX (.lst [.ref u1,.ref u2])
   rw[zQ]
   have lM:=s9.trans rA
   have few:fV [(xa,kp),(xb,kw)]:=⟨by simp,λe he=>by
    rcases List.mem_cons.mp he with rfl|he
    . exact⟨hxa,fp⟩
    rw[List.mem_singleton.mp he];exact⟨hxb,fw⟩⟩
   refine⟨ul,_,_,rfl,f3,zK f1 (lM _ _ hp8) f2 (lM _ _ J0),lK few,l7 few,λr H' s' hn hr=>?_⟩
   exact C l1 r _ _ (.rows xb "" (Fs.ao _)) vP H' lM (by rw[rA _ _ d1,Dv]) s' hr (Dw _ _) (RK.rows few hxb (.inl rfl) (.inr (.inl λt ht=>by
    rcases List.mem_cons.mp ht with h|h
    . cases h;exact absurd rfl nab
    . cases List.mem_singleton.mp h;exact Zw)))
 refine⟨_,rfl,rfl,_,rfl,bN (λ_=>?_) (λ_=>?_)⟩
 . refine⟨_,rfl,_,rfl,gw,λl1 hl1=>?_⟩
   obtain⟨H9,kJ,s9,d1⟩:=new1 hl1 (.lst [.str "rows",.str xa,.str "by",.str xa])
   rw[kJ]
   exact⟨_,rfl,gd,_,_,rfl,s9 _ _ c4,PG.mono s9,lK o9,l7 o9,λr H' s' hn hr=>C l1 r _ _ (.rows xa xa (Fs.ao _)) H9 H' s9 (by rw[d1,JM]) s' hr (JQ _ _ aiK _) (RK.rows o9 hxa (.inr hxa) (.inr (.inr (.inr rfl))))⟩
 refine⟨_,rfl,rfl,_,rfl,bN (λ_=>?_) (λ_=>?_)⟩
 . refine⟨_,rfl,_,rfl,gw,λl1 hl1=>?_⟩
   obtain⟨H9,kJ,s9,d1⟩:=new1 hl1 (.lst [.str "rows",.str xa,.str "by",.str xc])
   rw[kJ]
   exact⟨_,rfl,gd,_,_,rfl,s9 _ _ c4,PG.mono s9,lK o9,l7 o9,λr H' s' hn hr=>C l1 r _ _ (.rows xa xc (Fs.ao _)) H9 H' s9 (by rw[d1,JM]) s' hr (JQ _ _ ZG _) (RK.rows o9 hxa (.inr hxc) (.inr (.inr (.inl ⟨ZG,ZD⟩))))⟩
 refine⟨_,rfl,rfl,_,rfl,bN (λ_=>?_) (λ_=>?_)⟩
 . refine⟨_,rfl,_,rfl,gw,λl1 hl1=>?_⟩
   obtain⟨H9,kJ,s9,d1⟩:=new1 hl1 (.lst [.str "rows",.str xa,.str "by",.str xb])
   rw[kJ]
   refine⟨_,rfl,_,rfl,bC,λu1 hu1=>⟨_,rfl,_,rfl,bC,λu2 hu2=>⟨bC,λul pX=>?_⟩⟩⟩
   obtain⟨vP,zQ,rA,f1,f2,f3⟩:=vL hu1 hu2 pX (.lst [.ref u1,.ref u2])
   rw[zQ]
   have lM:=s9.trans rA
   have few:fV [(xb,kw),(xa,kp)]:=⟨by simp,λe he=>by
    rcases List.mem_cons.mp he with rfl|he
    . exact⟨hxb,fw⟩
    rw[List.mem_singleton.mp he];exact⟨hxa,fp⟩⟩
   refine⟨ul,_,_,rfl,f3,zK f1 (lM _ _ J0) f2 (lM _ _ hp8),lK few,l7 few,λr H' s' hn hr=>?_⟩
   exact C l1 r _ _ (.rows xa xb (Fs.ao _)) vP H' lM (by rw[rA _ _ d1,JM]) s' hr (JQ _ _ ZF _) (RK.rows few hxa (.inr hxb) (.inr (.inr (.inl ⟨ZF,λt ht=>by
    rcases List.mem_cons.mp ht with h|h
    . cases h;exact Zw
    . cases List.mem_singleton.mp h;exact absurd rfl nab⟩))))
 . obtain⟨xk,hxk,aiL⟩:∃xk,cM [V.str xa,.str xb] (m / 648 % 2)=some (.str xk)/\bZ (sl xk):=by
    have:m / 648 % 2=0\/m / 648 % 2=1:=by omega
    rcases this with e|e <;> rw[e]
    . exact⟨xa,rfl,hxa⟩
    . exact⟨xb,rfl,hxb⟩
   obtain⟨xd,hxd,ZJ⟩:∃xd,cM [V.str xa,.str xb] (m / 1296 % 2)=some (.str xd)/\(xd=xa\/xd=xb):=by
    have:m / 1296 % 2=0\/m / 1296 % 2=1:=by omega
    rcases this with e|e <;> rw[e]
    . exact⟨xa,rfl,.inl rfl⟩
    . exact⟨xb,rfl,.inr rfl⟩
   refine⟨_,rfl,_,rfl,bC,λi1 hi1=>⟨_,rfl,_,_,rfl,rfl,⟨by decide,by decide⟩,_,_,rfl,rfl,(by show(0:Int)<_;decide),i1,_,_,_,rfl,rfl,aL.of aG,hxk,bC,λl1 hl1=>?_⟩⟩
   obtain⟨H9,kJ,s9,_,d1⟩:=news2 hi1 hl1 (.lst [.str "rows",.str xk])
   rw[kJ]
   refine⟨_,rfl,_,rfl,bC,λu1 hu1=>⟨_,rfl,_,rfl,bC,λu2 hu2=>⟨_,rfl,_,rfl,bC,λi2 hi2=>⟨_,rfl,_,_,rfl,rfl,⟨by decide,by decide⟩,_,_,rfl,rfl,(by show(0:Int)<_;decide),i2,_,_,_,rfl,rfl,aL.of aG,hxd,_,rfl,bC,λu3 hu3=>⟨zZ,λul pX=>?_⟩⟩⟩⟩⟩
   obtain⟨vP,zQ,rA,f1,f2,_,f3,f4⟩:=JN hu1 hu2 hi2 hu3 pX (.lst [.ref u1,.ref u2,.ref u3])
   rw[zQ]
   have lM:=s9.trans rA
   have few:fV [(xa,kp),(xb,kp),(xd,kp)]:=⟨by simp,λe he=>by
    rcases List.mem_cons.mp he with rfl|he
    . exact⟨hxa,fp⟩
    rcases List.mem_cons.mp he with rfl|he
    . exact⟨hxb,fp⟩
    rw[List.mem_singleton.mp he];exact⟨by rcases ZJ with e|e <;> rw[e] <;> assumption,fp⟩⟩
   refine⟨ul,_,_,rfl,f4,Zg f1 (lM _ _ hp8) f2 (lM _ _ hp8) f3 (lM _ _ hp8),lK few,l7 few,λr H' s' hn hr=>?_⟩
   exact C l1 r _ _ (.rows xk "" (Fs.ao _)) vP H' lM (by rw[rA _ _ d1,Dv]) s' hr (Dw _ _) (RK.rows few aiL (.inl rfl) (.inl λz=>by
    rcases ZJ with e|e <;> rw[e] at z <;> simp at z))
theorem FA.lD {H:Hp}:∀{fs:Fs}{vs:List V},FA H vs fs->vs.length=fs.names.length
 | .nil,vs,h=>by have h:vs=[]:=h;subst h;rfl
 | .cons x k r,vs,⟨c,u,vr,e1,h1,h2,h3⟩=>by subst e1;show vr.length+1=_;rw[FA.lD h3];rfl
theorem n_ {K:W.Frag}{H:Hp}{n:Nat}{a b:Addr}{xs ys:List V}(ha:H a=some (.tup xs))(hb:H b=some (.tup ys))(hl:xs.length=ys.length)(he:∀(j:Nat) (x y:V),xs[j]? =some x->ys[j]? =some y->dM K H n x y true):dM K H (n+1) (.ref a) (.ref b) true:=by
 by_cases e:a=b
 . subst e;exact .ref a
 . have:=dM.tup (e:=λ_=>true) e (aM.of (K:=K) ha) (aM.of (K:=K) hb) he
   have ee:((List.range (min xs.length ys.length)).all (λ_=>true) && xs.length == ys.length)=true:=by
    rw[hl];simp
   rw[ee] at this
   exact this
theorem oh {K:W.Frag}{H:Hp}{n:Nat}(x:Str):dM K H n (.str x) (.str x) true:=by
 have:=dM.str (K:=K) (H:=H) (n:=n) x x
 rw[decide_eq_true rfl] at this
 exact this
theorem all2 {K:W.Frag}{H:Hp}{n:Nat}{x y x' y':V}(h1:dM K H n x x' true)(h2:dM K H n y y' true):∀(j:Nat) (a b:V),[x,y][j]? =some a->[x',y'][j]? =some b->dM K H n a b true
 |0,_,_,e1,e2=>by cases e1;cases e2;exact h1
 |1,_,_,e1,e2=>by cases e1;cases e2;exact h2
 |_+2,_,_,e1,_=>by cases e1
mutual
theorem KA.rB {K:W.Frag}{H:Hp}:∀(k:Kd) {n:Nat}{u v:V},3 * k.dep<=n->KA H u k->KA H v k->dM K H n u v true
 | .num,n,u,v,hn,h1,h2=>by
   unfold KA at h1 h2
   obtain⟨a,rfl,ha⟩:=h1
   obtain⟨b,rfl,hb⟩:=h2
   have hn:3<=n:=hn
   obtain⟨m,rfl⟩:∃m,n=m+1:=⟨n - 1,by omega⟩
   exact n_ ha hb rfl λj x y e1 e2=>by
    match j,e1,e2 with
    |0,e1,e2=>cases e1;cases e2;exact oh _
 | .bQ,n,u,v,hn,h1,h2=>by
   unfold KA at h1 h2
   obtain⟨a,rfl,ha⟩:=h1
   obtain⟨b,rfl,hb⟩:=h2
   have hn:3<=n:=hn
   obtain⟨m,rfl⟩:∃m,n=m+1:=⟨n - 1,by omega⟩
   exact n_ ha hb rfl λj x y e1 e2=>by
    match j,e1,e2 with
    |0,e1,e2=>cases e1;cases e2;exact oh _
 | .bW fs,n,u,v,hn,h1,h2=>by
   unfold KA at h1 h2
   obtain⟨a,a2,ws,rfl,ha,ha2,hF⟩:=h1
   obtain⟨b,b2,zs,rfl,hb,hb2,hG⟩:=h2
   have hn:3 * (fs.dep+1)<=n:=hn
   obtain⟨m,rfl⟩:∃m,n=m+1+1:=⟨n - 2,by omega⟩
   exact n_ ha hb rfl (all2 (oh _) (n_ ha2 hb2 (by rw[FA.lD hF,FA.lD hG]) (FA.rB fs (by omega) hF hG)))
 | .bV fs,n,u,v,hn,h1,h2=>by
   unfold KA at h1 h2
   obtain⟨a,a2,ws,rfl,ha,ha2,hF⟩:=h1
   obtain⟨b,b2,zs,rfl,hb,hb2,hG⟩:=h2
   have hn:3 * (fs.dep+1)<=n:=hn
   obtain⟨m,rfl⟩:∃m,n=m+1+1:=⟨n - 2,by omega⟩
   exact n_ ha hb rfl (all2 (oh _) (n_ ha2 hb2 (by rw[FA.lD hF,FA.lD hG]) (FA.rB fs (by omega) hF hG)))
 | .rows key b_ fs,n,u,v,hn,h1,h2=>by
   unfold KA at h1 h2
   obtain⟨a,a2,ws,rfl,ha,ha2,hF⟩:=h1
   obtain⟨b,b2,zs,rfl,hb,hb2,hG⟩:=h2
   have hn:3 * (fs.dep+1)<=n:=hn
   obtain⟨m,rfl⟩:∃m,n=m+1+1:=⟨n - 2,by omega⟩
   have hh:dM K H (m+1) (.ref a2) (.ref b2) true:=n_ ha2 hb2 (by rw[FA.lD hF,FA.lD hG]) (FA.rB fs (by omega) hF hG)
   exact n_ ha hb rfl λj x y e1 e2=>by
    match j,e1,e2 with
    |0,e1,e2=>cases e1;cases e2;exact oh _
    |1,e1,e2=>cases e1;cases e2;exact oh _
    |2,e1,e2=>cases e1;cases e2;exact oh _
    |3,e1,e2=>cases e1;cases e2;exact hh
 | .tree k,n,u,v,hn,h1,h2=>by
   unfold KA at h1 h2
   obtain⟨a,u',rfl,ha,hu⟩:=h1
   obtain⟨b,v',rfl,hb,hv⟩:=h2
   have hn:3 * (k.dep+1)<=n:=hn
   obtain⟨m,rfl⟩:∃m,n=m+1:=⟨n - 1,by omega⟩
   exact n_ ha hb rfl (all2 (oh _) (KA.rB k (by omega) hu hv))
theorem FA.rB {K:W.Frag}{H:Hp}:∀(fs:Fs) {n:Nat}{ws zs:List V},3 * fs.dep+1<=n->FA H ws fs->FA H zs fs->∀(j:Nat) (x y:V),ws[j]? =some x->zs[j]? =some y->dM K H n x y true
 | .nil,n,ws,zs,hn,h1,h2,j,x,y,e1,e2=>by
   unfold FA at h1
   subst h1
   cases e1
 | .cons nm k r,n,ws,zs,hn,h1,h2,j,x,y,e1,e2=>by
   unfold FA at h1 h2
   obtain⟨c,u,vr,rfl,hc,hk,hr⟩:=h1
   obtain⟨c',u',vr',rfl,hc',hk',hr'⟩:=h2
   have hm:3 * max k.dep r.dep+1<=n:=hn
   have hx:=Nat.le_max_left k.dep r.dep
   have hy:=Nat.le_max_right k.dep r.dep
   cases j with
   |zero=>
    cases e1;cases e2
    obtain⟨m,rfl⟩:∃m,n=m+1:=⟨n - 1,by omega⟩
    exact n_ hc hc' rfl (all2 (oh _) (KA.rB k (by omega) hk hk'))
   |succ j=>exact FA.rB r (by omega) hr hr' j x y e1 e2
end
theorem kE.mono {R R':Kd->Kd->Prop}{fs gs:Fs}(h:kE R fs gs)(m:∀k t,R k t->R' k t):kE R' fs gs:=by
 obtain⟨l,h1,h2,h3⟩:=h
 exact⟨l,h1,h2,λe he=>m _ _ (h3 e he)⟩
theorem Mx.up:∀{n:Nat}{k t:Kd},Mx n k t->Mx (n+1) k t
 |0,k,t,h=>h.elim
 |n+1,k,t,h=>by
  unfold Mx at h ⊢
  cases k <;> cases t <;> first|exact h.elim|trivial|exact Mx.up h|exact h.mono λ_ _=>Mx.up|exact⟨h.1,h.2.1,h.2.2.mono λ_ _=>Mx.up⟩
theorem oZ.up {n:Nat}{tri:List eY}(h:oZ n tri):oZ (n+1) tri:=λe he=>⟨(h e he).1.up,(h e he).2⟩
theorem mU.up {n:Nat}{gs:Fs}(h:mU n gs):mU (n+1) gs:=by
 obtain⟨tri,h1,h2⟩:=h
 exact⟨tri,h1,h2.up⟩
theorem dj.up:∀{n:Nat}{t:Kd},dj n t->dj (n+1) t
 |0,t,h=>h.elim
 |n+1,t,h=>by
  have bf:∀{gs:Fs},qN (dj n) n gs->qN (dj (n+1)) (n+1) gs:=λ⟨tri,x,t,post,h1,h2,h3⟩=>⟨tri,x,t,post,h1,h2.up,dj.up h3⟩
  unfold dj at h ⊢
  cases t with
  |num=>exact h.elim
  |bQ=>exact h.elim
  |tree t=>exact dj.up h
  |bW gs=>exact h.imp bf λz=>⟨z.1.up,z.2⟩
  |bV gs=>exact h.imp bf λz=>⟨z.1.up,z.2⟩
  |rows key b gs=>exact h.imp bf λz=>⟨z.1.up,z.2⟩
theorem Mx.mono {n m:Nat}{k t:Kd}(hm:n<=m)(h:Mx n k t):Mx m k t:=by
 induction hm with
 |refl=>exact h
 |step _ ih=>exact ih.up
theorem dj.mono {n m:Nat}{t:Kd}(hm:n<=m)(h:dj n t):dj m t:=by
 induction hm with
 |refl=>exact h
 |step _ ih=>exact ih.up
theorem aiN {α:Type}{l:List α}{a b:α}(h:l.Perm [a,b]):l=[a,b]\/l=[b,a]:=by
 match l,h.length_eq,h with
 |[c,d],_,h=>
  have hc:c∈[a,b]:=h.mem_iff.mp List.mem_cons_self
  rcases List.mem_cons.mp hc with e|e
  . subst e
    have:=(List.perm_cons c).mp h
    have e2:=List.singleton_perm.mp this
    injection e2 with e2
    exact .inl (by rw[e2])
  . have e:=List.mem_singleton.mp e
    subst e
    have h2:[c,d].Perm [c,a]:=h.trans (List.Perm.swap _ _ _)
    have e2:=List.singleton_perm.mp ((List.perm_cons c).mp h2)
    injection e2 with e2
    exact .inr (by rw[e2])
noncomputable def Wr (t k t' k':Kd):Prop:=∃(x y:Str) (ps qs:List (Str × Kd)),bZ (sl x)/\bZ (sl y)/\x≠y/\(ps=[(x,t),(y,.num)]\/ps=[(y,.num),(x,t)])/\(qs=[(x,k),(y,.num)]\/qs=[(y,.num),(x,k)])/\(qs.map (·.1)).Pairwise sle/\
 ((t'=.tree t/\k'=.tree k)\/(t'=.bV (Fs.ao ps)/\k'=.bV (Fs.ao qs))\/(t'=.rows y "" (Fs.ao ps)/\k'=.rows y "" (Fs.ao qs))\/(t'=.bW (Fs.ao ps)/\k'=.bW (Fs.ao qs)))
theorem dj.pos {n:Nat}{t:Kd}(h:dj n t):1<=n:=by
 cases n with
 |zero=>exact h.elim
 |succ n=>omega
theorem Mx.pos {n:Nat}{k t:Kd}(h:Mx n k t):1<=n:=by
 cases n with
 |zero=>exact h.elim
 |succ n=>omega
theorem Mx.num {n:Nat}(h:1<=n):Mx n .num .num:=by
 obtain⟨m,rfl⟩:∃m,n=m+1:=⟨n - 1,by omega⟩
 unfold Mx;trivial
section
variable {x y:Str}{t k:Kd}{ps qs:List (Str × Kd)}{n:Nat}
theorem aiO (hp:ps=[(x,t),(y,.num)]\/ps=[(y,.num),(x,t)])(h:dj n t):qN (dj n) n (Fs.ao ps):=by
 rcases hp with rfl|rfl
 . exact⟨[],x,t,[(y,.num)],by rw[Fs.fU];rfl,(λe he=>nomatch he),h⟩
 . refine⟨[(y,.num,.num)],x,t,[],by rw[Fs.fU];rfl,λe he=>?_,h⟩
   rw[List.mem_singleton.mp he]
   exact⟨Mx.num h.pos,by simp[Kd.S]⟩
theorem zR (hp:ps=[(x,t),(y,.num)]\/ps=[(y,.num),(x,t)]):∀e∈ps,e=(x,t)\/e=(y,.num):=by
 rcases hp with rfl|rfl <;> intro e he <;> simp at he <;> rcases he with h|h <;> simp[h]
theorem ZK (hp:ps=[(x,t),(y,.num)]\/ps=[(y,.num),(x,t)])(hx:bZ (sl x))(hy:bZ (sl y))(h:t.N):(Fs.ao ps).N:=Fs.Dh λe he=>by
 rw[Fs.fU] at he
 rcases zR hp e he with rfl|rfl
 . exact⟨hx,h⟩
 . exact⟨hy,by simp[Kd.N]⟩
theorem aiP (hp:ps=[(x,t),(y,.num)]\/ps=[(y,.num),(x,t)])(h:t.fw):(Fs.ao ps).names.length<=13/\(Fs.ao ps).fw:=by
 refine⟨by rw[Fs.vK,List.length_map];rcases hp with rfl|rfl <;> simp,Fs.JK λe he=>?_⟩
 rw[Fs.fU] at he
 rcases zR hp e he with rfl|rfl
 . exact h
 . simp[Kd.fw]
theorem ZL (hp:ps=[(x,t),(y,.num)]\/ps=[(y,.num),(x,t)]){d:Nat}(hd:1<=d)(h:t.dq<=d):(Fs.ao ps).dq<=d:=Fs.JL hd λe he=>by
 rw[Fs.fU] at he
 rcases zR hp e he with rfl|rfl
 . exact h
 . exact hd
theorem J1 (hp:ps=[(x,t),(y,.num)]\/ps=[(y,.num),(x,t)]):(Fs.ao ps).tk.length=t.tk.length+6:=by
 rw[Fs.tW,Fs.fU]
 have e:Kd.num.tk.length=1:=rfl
 rcases hp with rfl|rfl
 . rw[iQ,iQ]
   show t.tk.length+3+(Kd.num.tk.length+3+0) - 1=_
   omega
 . rw[iQ,iQ]
   show Kd.num.tk.length+3+(t.tk.length+3+0) - 1=_
   omega
theorem aiQ (hp:ps=[(x,t),(y,.num)]\/ps=[(y,.num),(x,t)])(hq:qs=[(x,k),(y,.num)]\/qs=[(y,.num),(x,k)])(h:Mx n k t):kE (Mx n) (Fs.ao qs) (Fs.ao ps):=by
 have hn:=Mx.num h.pos
 have hQ:(Fs.ao qs).toL.Perm [(x,k),(y,.num)]/\(Fs.ao qs).toL.Perm [(y,.num),(x,k)]:=by
  rw[Fs.fU]
  rcases hq with rfl|rfl
  . exact⟨List.Perm.refl _,List.Perm.swap _ _ _⟩
  . exact⟨List.Perm.swap _ _ _,List.Perm.refl _⟩
 rcases hp with rfl|rfl
 . refine⟨[(x,k,t),(y,.num,.num)],hQ.1,by rw[Fs.fU];rfl,λe he=>?_⟩
   simp at he
   rcases he with rfl|rfl
   . exact h
   . exact hn
 . refine⟨[(y,.num,.num),(x,k,t)],hQ.2,by rw[Fs.fU];rfl,λe he=>?_⟩
   simp at he
   rcases he with rfl|rfl
   . exact hn
   . exact h
theorem aiR (hq:qs=[(x,k),(y,.num)]\/qs=[(y,.num),(x,k)])(hxy:x≠y):(Fs.ao qs).pl y:=by
 rcases hq with rfl|rfl
 . exact⟨.num,by simp[Fs.ao,Fs.get,Ne.symm hxy],trivial⟩
 . exact⟨.num,by simp[Fs.ao,Fs.get],trivial⟩
theorem aiS (hq:qs=[(x,k),(y,.num)]\/qs=[(y,.num),(x,k)])(hxy:x≠y)(hs:(qs.map (·.1)).Pairwise sle)(h:k.S):(Fs.ao qs).names.Pairwise sle/\(Fs.ao qs).names.Nodup/\(Fs.ao qs).names.length<=13/\(Fs.ao qs).names≠[]/\(Fs.ao qs).S:=by
 rw[Fs.vK]
 refine⟨hs,?_,?_,?_,?_⟩
 . rcases hq with rfl|rfl
   . simp[hxy]
   . simp[Ne.symm hxy]
 . rcases hq with rfl|rfl <;> simp
 . rcases hq with rfl|rfl <;> simp
 . rcases hq with rfl|rfl
   . simp[Fs.ao,Fs.S,Kd.S,h]
   . simp[Fs.ao,Fs.S,Kd.S,h]
theorem aiT (hq:qs=[(x,k),(y,.num)]\/qs=[(y,.num),(x,k)]){d:Nat}(h:k.dep<=d):(Fs.ao qs).dep<=d:=Fs.Js λe he=>by
 rw[Fs.fU] at he
 rcases zR hq e he with rfl|rfl
 . exact h
 . have:=k.Hg
   show 1<=d
   omega
end
theorem Wr.rough {t k t' k':Kd}{n m:Nat}(h:RK n m t)(w:Wr t k t' k'):RK (n+1) (m+10) t':=by
 obtain⟨x,y,ps,qs,hx,hy,hxy,hp,hq,hs,hc⟩:=w
 have b:=aiO hp h.bad
 have nn:=ZK hp hx hy h.nn
 have fw:=aiP hp h.fw
 have dq:=ZL hp (d:=n+1) (by omega) h.dq
 have ln:=J1 hp
 have tl:=h.tl
 rcases hc with⟨rfl,rfl⟩|⟨rfl,rfl⟩|⟨rfl,rfl⟩|⟨rfl,rfl⟩
 . refine⟨by unfold dj;exact h.bad,by unfold Kd.N;exact h.nn,by unfold Kd.fw;exact h.fw,by have:=h.dq;simp only[Kd.dq];omega,?_⟩
   show(aK jg::t.tk).length<=_
   simp only[List.length_cons];omega
 . refine⟨by unfold dj;exact .inl b,by unfold Kd.N;exact nn,by unfold Kd.fw;exact fw,by simp only[Kd.dq];omega,?_⟩
   show(aK eX::mkT 123::((Fs.ao ps).tk++[mkT 125])).length<=_
   simp only[List.length_cons,List.length_append,List.length_nil];omega
 . refine⟨by unfold dj;exact .inl b,by unfold Kd.N;exact⟨hy,.inl rfl,nn⟩,by unfold Kd.fw;exact fw,by simp only[Kd.dq];omega,?_⟩
   show(aK cY::aK (sl y)::(dD ""++mkT 123::((Fs.ao ps).tk++[mkT 125]))).length<=_
   rw[zJ]
   simp only[List.length_cons,List.length_append,List.length_nil];omega
 . refine⟨by unfold dj;exact .inl b,by unfold Kd.N;exact nn,by unfold Kd.fw;exact fw,by simp only[Kd.dq];omega,?_⟩
   show(mkT 123::((Fs.ao ps).tk++[mkT 125])).length<=_
   simp only[List.length_cons,List.length_append,List.length_nil];omega
structure FK (n m:Nat) (k t:Kd):Prop where
 mx:Mx n k t
 s:k.S
 dep:k.dep<=n
 nn:t.N
 dq:t.dq<=n+1
 tl:t.tk.length<=m
theorem Wr.fine {t k t' k':Kd}{n m:Nat}(h:FK n m k t)(w:Wr t k t' k'):FK (n+1) (m+10) k' t':=by
 obtain⟨x,y,ps,qs,hx,hy,hxy,hp,hq,hs,hc⟩:=w
 have nn:=ZK hp hx hy h.nn
 have dq:=ZL hp (d:=n+1) (by omega) h.dq
 have ln:=J1 hp
 have tl:=h.tl
 have mx:=aiQ hp hq h.mx
 obtain⟨s1,s2,s3,s4,s5⟩:=aiS hq hxy hs h.s
 have dep:=aiT hq h.dep
 rcases hc with⟨rfl,rfl⟩|⟨rfl,rfl⟩|⟨rfl,rfl⟩|⟨rfl,rfl⟩
 . refine⟨by unfold Mx;exact h.mx,by unfold Kd.S;exact h.s,by have:=h.dep;simp only[Kd.dep];omega,by unfold Kd.N;exact h.nn,by have:=h.dq;simp only[Kd.dq];omega,?_⟩
   show(aK jg::t.tk).length<=_
   simp only[List.length_cons];omega
 . refine⟨by unfold Mx;exact mx,by unfold Kd.S;exact⟨s1,s2,s3,s4,s5⟩,by simp only[Kd.dep];omega,by unfold Kd.N;exact nn,by simp only[Kd.dq];omega,?_⟩
   show(aK eX::mkT 123::((Fs.ao ps).tk++[mkT 125])).length<=_
   simp only[List.length_cons,List.length_append,List.length_nil];omega
 . refine⟨by unfold Mx;exact⟨rfl,rfl,mx⟩,by unfold Kd.S;exact⟨s1,s2,s3,aiR hq hxy,.inl rfl,λe=>tQ hy e.symm,s5⟩,by simp only[Kd.dep];omega,by unfold Kd.N;exact⟨hy,.inl rfl,nn⟩,by simp only[Kd.dq];omega,?_⟩
   show(aK cY::aK (sl y)::(dD ""++mkT 123::((Fs.ao ps).tk++[mkT 125]))).length<=_
   rw[zJ]
   simp only[List.length_cons,List.length_append,List.length_nil];omega
 . refine⟨by unfold Mx;exact mx,by unfold Kd.S;exact⟨s1,s2,s3,s5⟩,by simp only[Kd.dep];omega,by unfold Kd.N;exact nn,by simp only[Kd.dq];omega,?_⟩
   show(mkT 123::((Fs.ao ps).tk++[mkT 125])).length<=_
   simp only[List.length_cons,List.length_append,List.length_nil];omega
mutual
theorem Kd.rD:∀(k:Kd),k.dq<=k.dep+1
 | .num=>by decide
 | .bQ=>by decide
 | .bW fs=>by have:=Fs.rD fs;simp only[Kd.dq,Kd.dep];omega
 | .rows _ _ fs=>by have:=Fs.rD fs;simp only[Kd.dq,Kd.dep];omega
 | .tree k=>by have:=Kd.rD k;simp only[Kd.dq,Kd.dep];omega
 | .bV fs=>by have:=Fs.rD fs;simp only[Kd.dq,Kd.dep];omega
theorem Fs.rD:∀(fs:Fs),fs.dq<=fs.dep+1
 | .nil=>by decide
 | .cons _ k r=>by have:=Kd.rD k;have:=Fs.rD r;simp only[Fs.dq,Fs.dep];omega
end
noncomputable def J3 (K:W.Frag) (H:Hp) (n:Nat) (u v:V):Prop:=∃a b xs ys,u=.ref a/\v=.ref b/\H a=some (.tup xs)/\H b=some (.tup ys)/\xs.length=ys.length/\Bj K H n xs ys (λ_=>true)
theorem J4 {K:W.Frag}{H:Hp}{n:Nat}{u v:V}{Q:VK}(h:J3 K H n u v)(q:Q (.bl false) H):Uu K n u v H Q:=by
 obtain⟨a,b,xs,ys,e1,e2,ha,hb,hl,he⟩:=h
 refine⟨a,b,xs,ys,λ_=>true,e1,e2,he,.inr ⟨aM.of ha,aM.of hb,?_⟩⟩
 have ee:(!((List.range (min xs.length ys.length)).all (λ_=>true) && xs.length == ys.length))=false:=by
  rw[hl];simp
 rw[ee];exact q
theorem J5 {t:Kd}(hN:t.N){zs:List (Nat × Tk)}(h:zs.map (·.2)=t.tk)(ha:j8 zs)(j:Nat):yq (cI iv 0 (spread zs j)) 0 t.tk/\∃q,(cI iv 0 (spread zs j))[t.tk.length]? =some q/\q.sort=0/\q.th=.str []:=by
 have hk:∀z∈zs,gF z.2:=λz hz=>t.j7 hN _ (by rw[<-h];exact List.mem_map.mpr ⟨z,hz,rfl⟩)
 have a:=V0 zs j 0 (λz hz=>(hk z hz).ok) (ha.b hk)
 rw[h] at a
 have e:zs.length=t.tk.length:=by rw[<-h,List.length_map]
 rw[e] at a
 exact a
theorem jK.ZM {K:W.Frag}{H H':Hp}{a:Addr}{ns:List Int}(h:jK K H a ns)(s:Same H H'):jK K H' a ns:=by
 rcases h with⟨o,h⟩|h
 . exact .inl ⟨o,s _ _ h⟩
 . exact .inr h
theorem G0.J6 {K:W.Frag}{H H':Hp}{a b P:Addr}{lp:Pos}{ql:Str}{ns:List Int}{n:Int}(g:G0 K H a b ns n)(hT:bU P lp ql H)(x:gk P H H'):G0 K H' a b ns n:=by
 refine⟨?_,g.len,x.ls hT g.at_,g.pos⟩
 rcases g.sy with⟨o,h⟩|h
 . refine .inl ⟨o,x _ _ (λz=>?_) h⟩
   obtain⟨ps,e⟩:=hT.tab
   rw[z,e] at h;cases h
 . exact .inr h
noncomputable def ZP (K:W.Frag):Sp:=λvs H Q _=>∃a b ns n l v t k,vs=[.ref a,.ref b,.ref l,v]/\G0 K H a b ns n/\n<=999999999990/\H l=some (.lst (PV t.tk))/\t.tk.length<=700/\KA H v k/\
 ∀(r l':Addr) (v':V) (t' k':Kd) (H':Hp),SB b H H'->H' b=some (.lst [.int (n+2)])->H' r=some (.tup [.ref l',v'])->H' l'=some (.lst (PV t'.tk))->l'≠b->KA H' v' k'->Wr t k t' k'->Q (.ref r) H'
theorem FA.two {H:Hp}{u1 u2 nk:Addr}{x y:Str}{v:V}{k:Kd}(h1:H u1=some (.tup [.str x,v]))(h2:H u2=some (.tup [.str y,.ref nk]))(hk:KA H v k)(hn:H nk=some (.tup [.str "number"])):FA H [.ref u1,.ref u2] (Fs.ao [(x,k),(y,.num)])/\FA H [.ref u2,.ref u1] (Fs.ao [(y,.num),(x,k)]):=by
 have kn:KA H (.ref nk) .num:=by unfold KA;exact⟨nk,rfl,hn⟩
 have f0:FA H [] .nil:=by unfold FA;rfl
 have f1:∀{c:Addr} {z:Str} {u:V} {q:Kd} {vr:List V} {r:Fs},H c=some (.tup [.str z,u])->KA H u q->FA H vr r->FA H (.ref c::vr) (.cons z q r):=λ{c z u q vr r} a b d=>by
  unfold FA
  exact⟨c,u,vr,rfl,a,b,d⟩
 exact⟨f1 h1 hk (f1 h2 kn f0),f1 h2 kn (f1 h1 hk f0)⟩
theorem ZQ:bR ["_law_script","_law_at","_law_pieces","_law_kind_here","_law_names_here","_law_m","_law_one_here","_law_other","_law_pairs","_law_fields_here"] ["_law_script","_law_at","_law_pieces","_law_kind_here"] (aN (top 46)):=cA
theorem aiU (T:Tb mg)(m7:Dn K mg "_law_round" ["_law_script","_law_at","_law_pieces","_law_kind_here"] (top 46) J7 J8)(dN:Dn K mg "_law_names" ["_law_script","_law_at","_law_many"] (top 35) nU nW)(tU:aB P w K mg base aO (2) nU nW ["_law_script","_law_at","_law_many"] (za K))(bA:Dn K mg "_law_next" ["_law_script","_law_at"] (top 34) eU eV)(fJ:aB P w K mg base aO (1) eU eV ["_law_script","_law_at"] (lZ K))(cH:Dn K mg "_law_listed" ["_law_pairs"] (top 44) zF zG)(lJ:aB P w K mg base aO (1) zF zG ["_law_pairs"] (JD)):aB P w K mg base aO (3) J7 J8 ["_law_script","_law_at","_law_pieces","_law_kind_here"] (ZP K):=by
 refine m7.F.ok ZQ (λvs H Q E h=>?_) (λcdv A outer s H vs Q E hr h=>?_)
 . obtain⟨a,b,ns,n,l,v,t,k,rfl,_⟩:=h
   rfl
 obtain⟨a,b,ns,n,l,v,t,k,rfl,g,hn,hl,ht7,hk,fin⟩:=h
 have nd:=ZQ.nd
 refine⟨_,(aC (aQ (i:=4) nd rfl (Or.inl rfl) (aV tU (hr.mono (by omega)) rfl dN.m dN.F.kp dN.b .nil aY (aj (pv 0) (aj (pv 1) (aj au ak)))))
  (aC (aQ (i:=5) nd rfl (Or.inl rfl) (aV fJ (hr.mono (by omega)) rfl bA.m bA.F.kp bA.b .nil aY (aj (pv 0) (aj (pv 1) ak))))
  (aC (uw (pv 4) (JT rfl (fX (dw (i:=6) nd rfl (Or.inl rfl)) (fX (dw (i:=7) nd rfl (Or.inl rfl)) ni))))
  (aC (bF (bh cj (aF cC (pv 5) au) au (bw _)) (aH (uw (pv 4) (JT rfl (fX (dw (i:=7) nd rfl (Or.inl rfl)) (fX (dw (i:=6) nd rfl (Or.inl rfl)) ni))))) bG)
  (aC (aQ (i:=8) nd rfl (Or.inl rfl) (bJ (aj (bH (aj (pv 7) (aj (bJ (aj aD ak)) ak))) (aj (bH (aj (pv 6) (aj (pv 2) ak))) ak))))
  (aC (bF (bh cj (aF cC (aF dR (pv 5) au) au) au (bw _)) (aH (aQ (i:=8) nd rfl (Or.inl rfl) (bJ (aj (bH (aj (pv 6) (aj (pv 2) ak))) (aj (bH (aj (pv 7) (aj (bJ (aj aD ak)) ak))) ak))))) bG)
  (aC (aQ (i:=9) nd rfl (Or.inl rfl) (uI Ao (by rfl) T.BK boot_tuple (aj (gb aiv (by rfl) T.Ho boot_sorted (aj (bJ (aj (bH (aj (pv 6) (aj (pv 3) ak))) (aj (bH (aj (pv 7) (aj (bH (aj aD ak)) ak))) ak))) ak)) ak)))
  (aC (bF (bh cj (aF cC (aF dR (pv 5) au) au) au (bw _)) (aH (aW (bH (aj (aF eO (bJ (aj aD ak)) (pv 2)) (aj (bH (aj aD (aj (pv 3) ak))) ak))))) bG)
  (aC (bF (bh cj (aF cC (aF dR (pv 5) au) au) au (bw _)) (aH (aW (bH (aj (aF eO (bJ (aj aD ak)) (aV lJ (hr.mono (by omega)) rfl cH.m cH.F.kp cH.b .nil aY (aj (pv 8) ak))) (aj (bH (aj aD (aj (pv 9) ak))) ak))))) bG)
  (aC (bF (bh cj (aF cC (aF dR (pv 5) au) au) au (bw _)) (aH (aW (bH (aj (aF eO (bJ (aj aD (aj (pv 7) ak))) (aV lJ (hr.mono (by omega)) rfl cH.m cH.F.kp cH.b .nil aY (aj (pv 8) ak))) (aj (bH (aj aD (aj (pv 7) (aj aD (aj (pv 9) ak))))) ak))))) bG)
  (aH (aW (bH (aj (aV lJ (hr.mono (by omega)) rfl cH.m cH.F.kp cH.b .nil aY (aj (pv 8) ak)) (aj (bH (aj aD (aj (pv 9) ak))) ak))))))))))))))),?_⟩
 have hb:=g.at_
 have hlb:l≠b:=λz=>by
  rw[z,hb] at hl
  injection hl with hl
  injection hl with hl
  cases htk:t.tk with
  |nil=>rw[htk] at hl;cases hl
  |cons c r=>rw[htk] at hl;injection hl with hl _;cases hl
 refine⟨_,rfl,_,rfl,a,b,ns,n,2,rfl,by omega,g,by omega,λp ss H1 s1 h1 hpb hp hsl hnd hsr hnm=>?_⟩
 dsimp only[gA]
 refine jB (A:=nj _ _) (λσ' H2=>∃m:Int,0<=m/\σ'=[some (.ref a),some (.ref b),some (.ref l),some v,some (.ref p),some (.int m),none,none,none,none]/\SB b H1 H2/\H2 b=some (.lst [.int (n+1+1)])) ?_ (λhB=>⟨_,rfl,_,rfl,a,b,ns,n+1,rfl,g.go s1 h1 (by omega),by omega,λm H2 m0 m1 s2 h2=>hB _ _ ⟨m,m0,rfl,s2,h2⟩⟩)
 rintro _ H2 ⟨m,m0,rfl,s2,h2⟩
 have h22:H2 b=some (.lst [.int (n+2)]):=by rw[h2];congr 4;omega
 match ss,hsl with
 |[x1,x2],_=>
 have hp2:H2 p=some (.lst [.str x1,.str x2]):=s2 _ _ hpb hp
 have s12:=s1.trans s2
 have n12:x1≠x2:=by simp at hnd;exact hnd
 have hx1:=hnm x1 (by simp)
 have hx2:=hnm x2 (by simp)
 refine⟨_,rfl,p,_,rfl,aL.of hp2,rfl,_,_,rfl,_,_,rfl,rfl,?_⟩
 dsimp only[gA]
 refine jB (A:=pK _ _ _) (λσ' H'=>∃x y,σ'=[some (.ref a),some (.ref b),some (.ref l),some v,some (.ref p),some (.int m),some (.str x),some (.str y),none,none]/\H2=H'/\bZ (sl x)/\bZ (sl y)/\x≠y) ?_ (λhB=>?_)
 . rintro _ _ ⟨x,y,rfl,rfl,hx,hy,hxy⟩
   have hl2:=s12 _ _ hlb hl
   have hk2:=KA.mono (s12.tu hb) _ hk
   refine⟨_,rfl,cJ,λr1 hr1=>⟨bC,λt1 ht1=>⟨_,rfl,_,rfl,bC,λt2 jm=>⟨bC,λpl hpl=>?_⟩⟩⟩⟩
   obtain⟨H3,zP,s3,a1,a2,a3,a4⟩:=vM hr1 ht1 jm hpl (.lst [.ref t1,.ref t2])
   rw[zP]
   clear zP hr1 ht1 jm hpl
   have hl3:=s3 _ _ hl2
   dsimp only[gA]
   refine jB (A:=pK _ _ _) (λσ' H'=>∃(pl:Addr) (vs:List V) (ps:List (Str × Kd)),σ'=[some (.ref a),some (.ref b),some (.ref l),some v,some (.ref p),some (.int m),some (.str x),some (.str y),some (.ref pl),none]/\Same H2 H'/\H' pl=some (.lst vs)/\PP H' vs ps/\(ps=[(x,t),(y,.num)]\/ps=[(y,.num),(x,t)])) ?_ (λhB=>?_)
   . rintro _ H4 ⟨pl,vs,ps,rfl,s4,hpl,hPP,hps⟩
     have W:∀{qs:List (Str × Kd)} {t' k':Kd},(qs=[(x,k),(y,.num)]\/qs=[(y,.num),(x,k)])->(qs.map (·.1)).Pairwise sle->((t'=.tree t/\k'=.tree k)\/(t'=.bV (Fs.ao ps)/\k'=.bV (Fs.ao qs))\/(t'=.rows y "" (Fs.ao ps)/\k'=.rows y "" (Fs.ao qs))\/(t'=.bW (Fs.ao ps)/\k'=.bW (Fs.ao qs)))->Wr t k t' k':=λ{qs t' k'} h1 h2 h3=>⟨x,y,ps,qs,hx,hy,hxy,hps,h1,h2,h3⟩
     have zT:=KA.mono (Tu.of s4) _ hk2
     have zU:=s4 _ _ hl2
     have hb4:=s4 _ _ h22
     refine jB (A:=nj _ _) (λσ' H'=>∃(ft:Addr) (ws:List V) (qs:List (Str × Kd)),σ'=[some (.ref a),some (.ref b),some (.ref l),some v,some (.ref p),some (.int m),some (.str x),some (.str y),some (.ref pl),some (.ref ft)]/\Same H4 H'/\H' ft=some (.tup ws)/\FA H' ws (Fs.ao qs)/\(qs=[(x,k),(y,.num)]\/qs=[(y,.num),(x,k)])/\(qs.map (·.1)).Pairwise sle) ?_ (λhB=>?_)
     . rintro _ H5 ⟨ft,ws,qs,rfl,s5,hft,J9,DN,o8⟩
       have o_:=KA.mono (Tu.of s5) _ zT
       have lG:=s5 _ _ zU
       have ZR:=s5 _ _ hb4
       have nY:=s5 _ _ hpl
       have J_:=hPP.mono s5
       have h13:ps.length<=13:=by rcases hps with rfl|rfl <;> simp
       have h7:∀e∈ps,e.2.tk.length<=700:=λe he=>by
        rcases zR hps e he with rfl|rfl
        . exact ht7
        . show 1<=700;decide
       have ln:=J1 hps
       have non:∀{H':Hp} {p:Addr},Same H5 H'->H' p=none->H5 p=none:=λ{H' p} s' h=>by
        cases e:H5 p with
        |none=>rfl
        |some o=>rw[s' _ _ e] at h;cases h
       have FN:∀(r l':Addr) (v':V) (t' k':Kd) (H':Hp),Same H5 H'->H5 l'=none->H' r=some (.tup [.ref l',v'])->H' l'=some (.lst (PV t'.tk))->KA H' v' k'->Wr t k t' k'->Q (.ref r) H':=λr l' v' t' k' H' s' hn' h1 h2 h3 h4=>fin r l' v' t' k' H' (s12.trans (SB.of (s4.trans (s5.trans s')))) (s' _ _ ZR) h1 h2 (λz=>by rw[z,ZR] at hn';cases hn') h3 h4
       refine⟨_,rfl,_,_,rfl,rfl,⟨by decide,by decide⟩,_,_,rfl,rfl,(by show(0:Int)<_;decide),rfl,_,rfl,bN (λ_=>?_) (λ_=>?_)⟩
       . refine⟨cJ,λl1 hl1=>⟨_,rfl,l1,l,_,_,rfl,rfl,aG,by rw[aq (aJ lG hl1)];exact lG,by rw[dI];show 1+_<=sizeLine;exact Nat.le_trans (show _<=1000 by omega) (by decide),λl2 hl2=>⟨_,rfl,bC,λu hu=>⟨bC,λr hr=>?_⟩⟩⟩⟩
         obtain⟨H6,n8,s6,c1,c2,c3,c4⟩:=vM hl1 hl2 hu hr (.tup [.ref l2,.ref u])
         rw[n8]
         refine FN r l2 (.ref u) (.tree t) (.tree k) H6 s6 (non (Same.new hl1) hl2) c4 (by rw[c2,aio,<-jA];rfl) ?_ (W DN o8 (.inl ⟨rfl,rfl⟩))
         unfold KA
         exact⟨u,v,rfl,c3,KA.mono (Tu.of s6) _ o_⟩
       refine⟨_,rfl,_,_,rfl,rfl,⟨by decide,by decide⟩,_,_,rfl,rfl,(by show(0:Int)<_;decide),rfl,_,rfl,bN (λ_=>?_) (λ_=>?_)⟩
       . refine⟨cJ,λl1 hl1=>?_⟩
         obtain⟨H6,n8,s6,c1⟩:=new1 hl1 (.lst [.str "either"])
         rw[n8]
         refine⟨_,rfl,pl,vs,ps,rfl,s6 _ _ nY,J_.mono s6,h13,h7,λr1 H7 s7 Ka tY=>?_⟩
         refine⟨l1,r1,_,_,rfl,rfl,s7 _ _ c1,tY,by rw[dI];simp only[List.length_cons,List.length_append,List.length_nil];exact Nat.le_trans (show _<=1000 by omega) (by decide),λl2 hl2=>⟨_,rfl,bC,λu hu=>⟨bC,λr hr=>?_⟩⟩⟩
         obtain⟨H8,mZ,s8,d1,d2,d3⟩:=vL hl2 hu hr (.tup [.ref l2,.ref u])
         rw[mZ]
         have m8:=s6.trans (s7.trans s8)
         refine FN r l2 (.ref u) (.bV (Fs.ao ps)) (.bV (Fs.ao qs)) H8 m8 (non (s6.trans s7) hl2) d3 (by rw[d1,Zi,<-jA];rfl) ?_ (W DN o8 (.inr (.inl ⟨rfl,rfl⟩)))
         unfold KA
         exact⟨u,ft,ws,rfl,d2,m8 _ _ hft,FA.mono (Tu.of m8) _ J9⟩
       refine⟨_,rfl,_,_,rfl,rfl,⟨by decide,by decide⟩,_,_,rfl,rfl,(by show(0:Int)<_;decide),rfl,_,rfl,bN (λ_=>?_) (λ_=>?_)⟩
       . refine⟨_,rfl,bC,λl1 hl1=>?_⟩
         obtain⟨H6,n8,s6,c1⟩:=new1 hl1 (.lst [.str "rows",.str y])
         rw[n8]
         refine⟨_,rfl,pl,vs,ps,rfl,s6 _ _ nY,J_.mono s6,h13,h7,λr1 H7 s7 Ka tY=>?_⟩
         refine⟨l1,r1,_,_,rfl,rfl,s7 _ _ c1,tY,by rw[dI];simp only[List.length_cons,List.length_append,List.length_nil];exact Nat.le_trans (show _<=1000 by omega) (by decide),λl2 hl2=>⟨_,rfl,_,rfl,gw,λu hu=>⟨bC,λr hr=>?_⟩⟩⟩
         obtain⟨H8,mZ,s8,d1,d2,d3⟩:=vL hl2 hu hr (.tup [.ref l2,.ref u])
         rw[mZ]
         have m8:=s6.trans (s7.trans s8)
         refine FN r l2 (.ref u) (.rows y "" (Fs.ao ps)) (.rows y "" (Fs.ao qs)) H8 m8 (non (s6.trans s7) hl2) d3 (by rw[d1,Dv,<-jA,Dw]) ?_ (W DN o8 (.inr (.inr (.inl ⟨rfl,rfl⟩))))
         unfold KA
         exact⟨u,ft,ws,rfl,d2,m8 _ _ hft,FA.mono (Tu.of m8) _ J9⟩
       . refine⟨_,rfl,pl,vs,ps,rfl,nY,J_,h13,h7,λl2 H7 s7 Ka tY=>?_⟩
         refine⟨_,rfl,bC,λu hu=>⟨bC,λr hr=>?_⟩⟩
         obtain⟨H8,mZ,s8,d2,d3⟩:=news2 hu hr (.tup [.ref l2,.ref u])
         rw[mZ]
         have m8:=s7.trans s8
         refine FN r l2 (.ref u) (.bW (Fs.ao ps)) (.bW (Fs.ao qs)) H8 m8 Ka d3 (s8 _ _ tY) ?_ (W DN o8 (.inr (.inr (.inr ⟨rfl,rfl⟩))))
         unfold KA
         exact⟨u,ft,ws,rfl,d2,m8 _ _ hft,FA.mono (Tu.of m8) _ J9⟩
     . refine⟨_,rfl,_,rfl,bC,λu1 hu1=>⟨_,rfl,cJ,λnk hnk=>⟨bC,λu2 hu2=>⟨bC,λul pX=>?_⟩⟩⟩⟩
       obtain⟨H5,Dz,s5,c1,c2,c3,c4⟩:=vM hu1 hnk hu2 pX (.lst [.ref u1,.ref u2])
       rw[Dz]
       refine⟨ul,[(u1,x,v),(u2,y,.ref nk)],rfl,aL.of c4,λq hq=>?_,by simp[hxy],by show 2<=2;decide,by show 2<64;decide,λD bB hD hperm o8=>?_⟩
       . rcases List.mem_cons.mp hq with rfl|hq
         . exact c1
         . rw[List.mem_singleton.mp hq];exact c3
       refine⟨D,_,rfl,.inl ⟨aL.of aG,λft hft=>?_⟩⟩
       obtain⟨H6,n8,s6,d1,d2⟩:=news2 hD hft (.tup (bB.map λq=>V.ref q.1))
       rw[n8]
       obtain⟨f1,f2⟩:=FA.two (s6 _ _ c1) (s6 _ _ c3) (KA.mono (Tu.of (s5.trans s6)) _ zT) (s6 _ _ c2)
       rcases aiN hperm with rfl|rfl
       . refine hB _ _ ⟨ft,_,[(x,k),(y,.num)],rfl,s5.trans s6,d2,f1,.inl rfl,?_⟩
         have z:=List.pairwise_pair.mp o8
         exact List.pairwise_pair.mpr z
       . refine hB _ _ ⟨ft,_,[(y,.num),(x,k)],rfl,s5.trans s6,d2,f2,.inr rfl,?_⟩
         have z:=List.pairwise_pair.mp o8
         exact List.pairwise_pair.mpr z
   . refine⟨_,rfl,_,_,rfl,rfl,⟨by decide,by decide⟩,_,_,rfl,rfl,(by show(0:Int)<_;decide),rfl,_,rfl,bN (λ_=>?_) (λ_=>?_)⟩
     . refine⟨_,rfl,_,rfl,bC,λt3 jh=>⟨_,rfl,cJ,λr2 hr2=>⟨bC,λt4 DG=>⟨bC,λpq hpq=>?_⟩⟩⟩⟩
       obtain⟨H4,Dy,s4,b1,b2,b3,b4⟩:=vM jh hr2 DG hpq (.lst [.ref t3,.ref t4])
       rw[Dy]
       exact hB _ _ ⟨pq,_,_,rfl,s3.trans s4,b4,zK (e1:=(x,t)) (e2:=(y,.num)) b1 (s4 _ _ hl3) b3 (by rw[b2,zM]),.inl rfl⟩
     . exact hB _ _ ⟨pl,_,_,rfl,s3,a4,zK (e1:=(y,.num)) (e2:=(x,t)) a2 (by rw[a1,zM]) a3 hl3,.inr rfl⟩
 . refine⟨_,rfl,_,_,rfl,rfl,(by show(0:Int)<_;decide),rfl,_,rfl,bN (λ_=>?_) (λ_=>?_)⟩
   . refine⟨_,rfl,p,_,rfl,aL.of hp2,rfl,_,_,rfl,_,_,rfl,rfl,?_⟩
     exact hB _ _ ⟨x2,x1,rfl,rfl,hx2,hx1,Ne.symm n12⟩
   . exact hB _ _ ⟨x1,x2,rfl,rfl,hx1,hx2,n12⟩
theorem aiW {X:Cx}{K:W.Frag}{e:Expr}{ta:TE}{f:Str}{pos:Pos}(hK:X.K=K)(he:PE X e ta)(hb:attributeBase e f X.env (eval e X.env)=eval e X.env):PE X (.Attribute e f pos) (U5 K ta f):=by
 subst hK
 exact aeZ he hb
structure ZS (K:W.Frag) (mg:Str->Option Value) (cV cN cK:Addr):Prop where
 m:mg "ViewError"=some (.ref cV)
 ty:W.typeIn K (.ref cV)=some (.type "type")
 is:(W.clsIn K cV).isSome=true
 bx:W.subIn K (.ref cV) (.type "BaseException")=some true
 sub:W.subIn K (.ref cN) (.ref cV)=some true
 aiX:W.subIn K (.ref cK) (.ref cV)=some true
 k1:W.kitOne K (.ref cN) (.ref cN)=some true
 k2:W.kitOne K (.ref cN) (.ref cK)=some false
 k3:W.kitOne K (.ref cK) (.ref cN)=some false
 k4:W.kitOne K (.ref cK) (.ref cK)=some true
 nk:mg "NoKind"=some (.ref cK)
 cls:j4 K cK
noncomputable def DP (H:Hp) (p:Nat) (Q:VK):Prop:=∀u H',Same H H'->H' u=some (.tup [.str "text",.int p])->Q (.ref u) H'
noncomputable def ZV (H:Hp) (Q:VK):Prop:=∀u H',Same H H'->H' u=some (.tup [.str "none",.int 0])->Q (.ref u) H'
noncomputable def ZW (d n:Nat) (Pt:Addr):Sp:=λvs H Q _=>∃x:Tx,∃t:Kd,∃c p:Nat,vs=[.str (ao x)]/\x.length<=100000/\cO (cI iv 0 x) 0 t.tk c p/\t.dq<=d/\t.N/\t.tk.length<=1000/\bU Pt cZ dg H/\
 ((c<t.tk.length/\DP H p Q)\/(t.tk.length<=c/\qC (cI iv 0 x) t.tk.length p/\DP H p Q)\/
  (t.tk.length<=c/\(∃q,(cI iv 0 x)[t.tk.length]? =some q/\q.sort=0/\q.th=.str [])/\((∃k,Mx n k t/\k.S/\∀r u H',gk Pt H H'->bU Pt cZ dg H'->H' r=some (.tup [.str "kind",u])->KA H' u k->Q (.ref r) H')\/(dj n t/\t.fw/\∀H',gk Pt H H'->bU Pt cZ dg H'->ZV H' Q))))
section
variable {P:Program}{w:World}{K:W.Frag}{mg:Str->Option Value}{base:Heap}
variable {Pt cV dG gq:Addr}
theorem ZX:bR ["_law_text","_law_told_here","e"] ["_law_text"] (aN (top 47)):=cA
theorem aiY (d n:Nat)(T:Tb mg)(XC:sG K mg base dG jx)(XV:ZS K mg cV dG gq)(iR:Dn K mg "_law_told" ["_law_text"] (top 47) Kc Ke)(qR:Dn K mg "read_kind" ["text"] (top 27) Jc Jd)(aiZ:aB P w K mg base (bK P w) ((8 * d+2 * n+20)+1) Jc Jd ["text"] (XQ d n Pt dG gq)):aB P w K mg base aO (8 * d+2 * n+22) Kc Ke ["_law_text"] (ZW d n Pt):=by
 have Z0:=XC.m
 have Z1:=XV.nk
 refine iR.F.ok ZX (λvs H Q E h=>?_) (λcdv A outer s H vs Q E hr h=>?_)
 . obtain⟨x,t,c,p,rfl,_⟩:=h
   rfl
 obtain⟨x,t,c,p,rfl,hl,hpat,hdq,hN,htl,hT,h⟩:=h
 have nd:=ZX.nd
 let Ek:XK:=λCv dd H'=>(Cv=.ref dG/\∃d,∃p:Nat,dd=some d/\H' d=some (.xd [("place",.int p)])/\DP H' p Q)\/(Cv=.ref gq/\dd=none/\ZV H' Q)
 have yP:∀C' dd H',Ek (.ref C') dd H'->W.subIn K (.ref C') (.ref cV)=some true:=λC' dd H' z=>by
  rcases z with z|z
  . rw[z.1];exact XV.sub
  . rw[z.1];exact XV.aiX
 refine⟨_,(aC (aeS (Ek:=Ek) (i:=2) rfl rfl (aeP (i:=1) nd rfl (.inl rfl) (U8 (Bt (U6 aD) (Bt (U3 aiZ (hr.mono (by omega)) rfl qR.m qR.F.kp qR.b .nil (aj (pv 0) ak)) U7)))) rfl XV.m XV.ty XV.is XV.bx yP nd rfl rfl (λa=>(aH (aQ (i:=1) nd rfl (Or.inl rfl) (bH (aj aD (aj (pv 2) ak)))))))
  (aC (bF (bh cj (aU bY (pv 1) au (λ_ _=>rfl)) aD (bw _)) (aH (aW (pv 1))) bG)
  (aC (bF (PW.pt (lO (iV (gb Br (by rfl) T.BJ boot_isinstance (aj (aU bY (pv 1) au (λ_ _=>rfl)) (aj (kZ (v:=.ref dG) rfl Z0 rfl) ak)))) (oA (oE (iV (gb Br (by rfl) T.BJ boot_isinstance (aj (aU bY (pv 1) au (λ_ _=>rfl)) (aj (kZ (v:=.ref gq) rfl Z1 rfl) ak)))))))) (aH (aW (bH (aj aD (aj (aiW (K:=K) rfl (aU bY (pv 1) au (λ_ _=>rfl)) rfl) ak))))) bG)
  (aC (bF (PW.pt (lO (iV (gb Br (by rfl) T.BJ boot_isinstance (aj (aU bY (pv 1) au (λ_ _=>rfl)) (aj (kZ (v:=.ref gq) rfl Z1 rfl) ak)))) (oA (oE (iV (gb Br (by rfl) T.BJ boot_isinstance (aj (aU bY (pv 1) au (λ_ _=>rfl)) (aj (kZ (v:=.ref dG) rfl Z0 rfl) ak)))))))) (aH (aW (bH (aj aD (aj au ak))))) bG)
  (aH (aW (bH (aj aD (aj au ak))))))))),?_⟩
 have hRf:∀p,DP H p Q->Jb dG H p Ek:=λp hp dd H' s1 hd=>.inl ⟨rfl,dd,p,rfl,hd,λu H2 s2 hu=>hp u H2 (s1.trans s2) hu⟩
 refine⟨?_,λa C' dd H' na hE=>?_⟩
 . refine⟨_,rfl,x,t,c,p,rfl,hl,hpat,hdq,hN,htl,hT,?_⟩
   rcases h with⟨h1,fin⟩|⟨h1,h2,fin⟩|⟨h1,h2,fin⟩
   . exact .inl ⟨h1,hRf _ fin⟩
   . exact .inr (.inl ⟨h1,h2,hRf _ fin⟩)
   . refine .inr (.inr ⟨h1,h2,?_⟩)
     rcases fin with⟨k,h3,h4,fin⟩|⟨h3,h4,fin⟩
     . refine .inl ⟨k,h3,h4,λu H' kp hT' hk=>⟨bC,λr hr=>?_⟩⟩
       exact⟨_,rfl,r,_,_,_,rfl,rfl,aM.of aG,rfl,rfl,_,rfl,bT ⟨_,rfl,fin r u _ (Kp.trans kp (Kp.of (Same.new hr))) (hT'.same (Same.new hr)) aG (KA.mono (Tu.of (Same.new hr)) _ hk)⟩⟩
     . exact .inr ⟨h3,h4,λH' kp hT'=>.inr ⟨rfl,rfl,fin H' kp hT'⟩⟩
 . have s1:Same H' (upd H' a (lq a C' dd)):=Same.new na
   refine⟨_,rfl,bC,λu hu=>?_⟩
   have s2:=s1.trans (Same.new (o:=.tup [.str "no",.ref a]) hu)
   have ha2:upd (upd H' a (lq a C' dd)) u (.tup [.str "no",.ref a]) a=some (lq a C' dd):=Same.new hu _ _ aG
   refine⟨_,rfl,u,_,_,_,rfl,rfl,aM.of aG,rfl,rfl,_,rfl,aZ ?_⟩
   rcases hE with⟨e,d,n,rfl,hd,hn⟩|⟨e,rfl,hn⟩
   . injection e with e
     subst e
     refine⟨_,rfl,u,_,_,_,rfl,rfl,aM.of aG,rfl,a,C',some d,_,_,true,rfl,rfl,ha2,XC.cls,XV.k1,_,rfl,?_⟩
     refine bT ⟨_,rfl,u,_,_,_,rfl,rfl,aM.of aG,rfl,a,C',some d,_,_,false,rfl,rfl,ha2,XC.cls,XV.k2,_,rfl,bT ?_⟩
     refine⟨_,rfl,u,_,_,_,rfl,rfl,aM.of aG,rfl,a,C',d,_,.int n,rfl,ha2,s2 _ _ hd,XC.cls,XC.fld,rfl,bC,λv hv=>hn v _ (s2.trans (Same.new hv)) aG⟩
   . injection e with e
     subst e
     refine⟨_,rfl,u,_,_,_,rfl,rfl,aM.of aG,rfl,a,C',none,_,_,false,rfl,rfl,ha2,XV.cls,XV.k3,_,rfl,aZ ?_⟩
     refine⟨_,rfl,u,_,_,_,rfl,rfl,aM.of aG,rfl,a,C',none,_,_,true,rfl,rfl,ha2,XV.cls,XV.k4,_,rfl,?_⟩
     refine bT ⟨_,rfl,u,_,_,_,rfl,rfl,aM.of aG,rfl,a,C',none,_,_,false,rfl,rfl,ha2,XV.cls,XV.k3,_,rfl,bT ?_⟩
     exact⟨bC,λv hv=>hn v _ (s2.trans (Same.new hv)) aG⟩
end
theorem ai1 {K:W.Frag}{H:Hp}{n:Nat}{u v:V}{Q:VK}(h:J3 K H n u v)(q:Q (.bl true) H):GQ K n u v H Q:=by
 obtain⟨a,b,xs,ys,e1,e2,ha,hb,hl,he⟩:=h
 refine⟨a,b,xs,ys,λ_=>true,e1,e2,he,.inr ⟨aM.of ha,aM.of hb,?_⟩⟩
 have ee:((List.range (min xs.length ys.length)).all (λ_=>true) && xs.length == ys.length)=true:=by
  rw[hl];simp
 rw[ee];exact q
theorem Kf {K:W.Frag}{H:Hp}{n:Nat}(x:Int):dM K H n (.int x) (.int x) true:=by
 have:=dM.int (K:=K) (H:=H) (n:=n) x x
 rw[decide_eq_true rfl] at this
 exact this
theorem DQ {K:W.Frag}{H:Hp}{n:Nat}{a b:Addr}{s:Str}{x y:V}(ha:H a=some (.tup [.str s,x]))(hb:H b=some (.tup [.str s,y]))(h:dM K H n x y true):J3 K H n (.ref a) (.ref b):=
 ⟨a,b,_,_,rfl,rfl,ha,hb,rfl,all2 (oh _) h⟩
theorem ai2 {t:Kd}(hN:t.N){w:Tx}(hw:lH w){zs:List (Nat × Tk)}{j:Nat}(hj:j<=t.tk.length)(h:zs.map (·.2)=t.tk.take j++gP w::t.tk.drop j)(ha:j8 zs)(jj:Nat):
 ∃z,zs[j]? =some z/\cO (cI iv 0 (spread zs jj)) 0 t.tk j ((spread (zs.take j) 0).length+z.1+1)/\qC (cI iv 0 (spread zs jj)) j ((spread (zs.take j) 0).length+z.1+1):=by
 have hlen:zs.length=t.tk.length+1:=by
  have:=congrArg List.length h
  rw[List.length_map,List.length_append,List.length_cons,List.length_take,List.length_drop] at this
  omega
 have Kg:j<zs.length:=by omega
 obtain⟨z,hz⟩:∃z,zs[j]? =some z:=⟨_,List.getElem?_eq_getElem Kg⟩
 have e1:zs=zs.take j++z::zs.drop (j+1):=by
  conv=>lhs;rw[<-List.take_append_drop j zs]
  rw[List.drop_eq_getElem_cons Kg]
  rw[List.getElem?_eq_getElem Kg] at hz
  injection hz with hz
  rw[hz]
 have lD:(t.tk.take j).length=j:=by rw[List.length_take];omega
 have z2:z.2=gP w:=by
  have:=congrArg (λl=>l[j]?) h
  simp only[List.getElem?_map,hz] at this
  rw[List.getElem?_append_right (by omega),lD,Nat.sub_self] at this
  injection this
 have as2:(zs.take j).map (·.2)=t.tk.take j:=by
  rw[List.map_take,h,List.take_append_of_le_length (by omega),List.take_of_length_le (by omega)]
 have hk:∀z∈zs.take j,gF z.2:=λz hz=>t.j7 hN _ (List.mem_of_mem_take (by rw[<-as2];exact List.mem_map.mpr ⟨z,hz,rfl⟩))
 have hal:j8 (zs.take j):=λi a b h1 h2=>ha i a b (by
  rw[List.getElem?_take] at h1
  split at h1
  . exact h1
  . cases h1) (by
  rw[List.getElem?_take] at h2
  split at h2
  . exact h2
  . cases h2)
 obtain⟨p1,q,p2,p3,p4,p5⟩:=Zb (zs.take j) z.1 w (zs.drop (j+1)) jj 0 hw (λu hu=>(hk u hu).ok) (j8.b hk hal)
 have ez:z=(z.1,gP w):=by rw[<-z2]
 rw[<-ez,<-e1] at p1 p2
 have al:(zs.take j).length=j:=by rw[List.length_take];omega
 rw[al] at p2
 rw[Nat.zero_add] at p5
 have bad:qC (cI iv 0 (spread zs jj)) j ((spread (zs.take j) 0).length+z.1+1):=⟨q,p2,p3,p4,p5⟩
 refine⟨z,hz,⟨λk u hk hu=>?_,λ_=>by rw[Nat.zero_add];exact bad⟩,bad⟩
 rw[as2] at p1
 exact p1 k u (by rw[List.getElem?_take,if_pos hk];exact hu)
theorem ai3 {m:Int}(h0:0<=m)(h1:m<5):∃w,lH w/\cM [V.str (Str.ofString "A"),.str (Str.ofString "-"),.str (Str.ofString "00"),.str (Str.ofString "~"),.str (Str.ofString "nopqrstuvwxyz")] m=some (SX w):=by
 have:m=0\/m=1\/m=2\/m=3\/m=4:=by omega
 rcases this with rfl|rfl|rfl|rfl|rfl
 . exact⟨_,ah4,by rw[<-dF (Str.ofString "A") [65] (by decide +kernel)];rfl⟩
 . exact⟨_,ah5,by rw[<-dF (Str.ofString "-") [45] (by decide +kernel)];rfl⟩
 . exact⟨_,ah7,by rw[<-dF (Str.ofString "00") [48,48] (by decide +kernel)];rfl⟩
 . exact⟨_,ah6,by rw[<-dF (Str.ofString "~") [126] (by decide +kernel)];rfl⟩
 . exact⟨_,ah8,by rw[<-dF (Str.ofString "nopqrstuvwxyz") [110,111,112,113,114,115,116,117,118,119,120,121,122] (by decide +kernel)];rfl⟩
theorem lH.len {w:Tx}(h:lH w):w.length<=13:=by
 obtain⟨_,_,_,_,h,_⟩:=h
 exact h
theorem ai4 {b:Addr}{H H':Hp}{o:HO}(hb:H b=none)(s:SB b (upd H b o) H'):Same H H':=λc u h=>s c u (aJ h hb) (by rw[aq (aJ h hb)];exact h)
theorem DR {t:Kd}(h:t.N):∀u∈t.tk,Du u:=λu hu=>(t.j7 h u hu).l
theorem DW {H:Hp}{l b:Addr}{ts:List Tk}{n:Int}(hl:H l=some (.lst (PV ts)))(hb:H b=some (.lst [.int n])):l≠b:=λz=>by
 rw[z,hb] at hl
 injection hl with hl
 injection hl with hl
 cases ts with
 |nil=>cases hl
 |cons c r=>injection hl with hl _;cases hl
theorem RK.mono {n n' m m':Nat}{t:Kd}(h:RK n m t)(hn:n<=n')(hm:m<=m'):RK n' m' t:=⟨h.bad.mono hn,h.nn,h.fw,Nat.le_trans h.dq (by omega),Nat.le_trans h.tl hm⟩
theorem FK.mono {n n' m m':Nat}{k t:Kd}(h:FK n m k t)(hn:n<=n')(hm:m<=m'):FK n' m' k t:=⟨h.mx.mono hn,h.s,Nat.le_trans h.dep hn,h.nn,Nat.le_trans h.dq (by omega),Nat.le_trans h.tl hm⟩
theorem ai5 {c len:Nat}{T X Y:Prop}(h:T)(hx:len<=c->X):(c<len/\T)\/(len<=c/\X/\T)\/Y:=
 (Nat.lt_or_ge c len).elim (λz=>.inl ⟨z,h⟩) λz=>.inr (.inl ⟨z,hx z,h⟩)
theorem ai6 (w:Tx):Str.ofString " "++ao w++Str.ofString " "=ao (32::(w++[32])):=by
 have vJ:Str.ofString " "=ao [32]:=by decide +kernel
 rw[vJ,mj,mj];rfl
noncomputable def Z2 (K:W.Frag) (Pt:Addr):Sp:=λvs H Q _=>∃a b ns n,vs=[.ref a,.ref b]/\G0 K H a b ns n/\bU Pt cZ dg H/\n<=999999000000/\
 ∀n' H',G0 K H' a b ns n'->n<=n'->n'<=n+10000->bU Pt cZ dg H'->Q (.bl true) H'
section
variable {P:Program}{w:World}{K:W.Frag}{mg:Str->Option Value}{base:Heap}
variable {Pt:Addr}
theorem Z4:bR ["_law_script","_law_at","_law_rough_here","_law_kind_here","_law_fine","_law_k","_law_begun","_law_wrong","_law_text","_law_places"] ["_law_script","_law_at"] (aN (top 48)):=cA
theorem ai7 (T:Tb mg)(rE:Dn K mg "_law_one" ["_law_script","_law_at"] (top 48) DX Kh)(rm:Dn K mg "_law_rough" ["_law_script","_law_at"] (top 45) JV JW)(ai8:aB P w K mg base aO (3) JV JW ["_law_script","_law_at"] (Zr K))(dO:Dn K mg "_law_kind" ["_law_script","_law_at","_law_deep"] (top 39) lE lF)(tV:aB P w K mg base aO (2 * 1+4) lE lF ["_law_script","_law_at","_law_deep"] (tO K 1))(gJ:Dn K mg "_law_kind_pieces" ["_law_script","_law_at","_law_kind_here","_law_mixed"] (top 43) qZ q9)(zE:aB P w K mg base aO (2 * 4+1) qZ q9 ["_law_script","_law_at","_law_kind_here","_law_mixed"] (zA K 4))(bA:Dn K mg "_law_next" ["_law_script","_law_at"] (top 34) eU eV)(fJ:aB P w K mg base aO (1) eU eV ["_law_script","_law_at"] (lZ K))(m7:Dn K mg "_law_round" ["_law_script","_law_at","_law_pieces","_law_kind_here"] (top 46) J7 J8)(Z5:aB P w K mg base aO (3) J7 J8 ["_law_script","_law_at","_law_pieces","_law_kind_here"] (ZP K))(iR:Dn K mg "_law_told" ["_law_text"] (top 47) Kc Ke)(DY:aB P w K mg base aO (8 * 8+2 * 7+22) Kc Ke ["_law_text"] (ZW 8 7 Pt))(jR:Dn K mg "_law_loose" ["_law_script","_law_at","_law_pieces"] (top 41) Jz JB)(Kl:aB P w K mg base aO (2) Jz JB ["_law_script","_law_at","_law_pieces"] (Y7 K))(qz:Dn K mg "_law_joined" ["_law_pieces"] (top 40) HD HF)(ai9:aB P w K mg base aO (1) HD HF ["_law_pieces"] (Wf)):aB P w K mg base aO (101) DX Kh ["_law_script","_law_at"] (Z2 K Pt):=by
 refine rE.F.ok Z4 (λvs H Q E h=>?_) (λcdv A outer s H vs Q E hr h=>?_)
 . obtain⟨a,b,ns,n,rfl,_⟩:=h
   rfl
 obtain⟨a,b,ns,n,rfl,g,hT,hn,fin⟩:=h
 have nd:=Z4.nd
 have D_:(A.deeper (PyProof.Rows.envOfC "_law_one" (aN (top 48)) s.heap.objs.size DX cdv)).units+1+30<cLine:=Nat.lt_of_le_of_lt (Nat.add_le_add_left (by decide:31<=64) _) hr.units
 refine⟨_,(aC (aQ (i:=2) nd rfl (Or.inl rfl) (aV ai8 (hr.mono (by omega)) rfl rm.m rm.F.kp rm.b .nil aY (aj (pv 0) (aj (pv 1) ak))))
  (aC (aQ (i:=3) nd rfl (Or.inl rfl) (aV tV (hr.mono (by omega)) rfl dO.m dO.F.kp dO.b .nil aY (aj (pv 0) (aj (pv 1) (aj au ak)))))
  (aC (aQ (i:=4) nd rfl (Or.inl rfl) (aV zE (hr.mono (by omega)) rfl gJ.m gJ.F.kp gJ.b .nil aY (aj (pv 0) (aj (pv 1) (aj (pv 3) (aj rG ak))))))
  (aC (lQ PassesOwn.never rfl (wG rfl T.uV (aj (aF cC (aV fJ (hr.mono (by omega)) rfl bA.m bA.F.kp bA.b .nil aY (aj (pv 0) (aj (pv 1) ak))) au) ak)) (dw (i:=5) nd rfl (Or.inl rfl)) (aC (aQ (i:=6) nd rfl (Or.inl rfl) (aU dU (pv 1) au (λ_ _=>rfl)))
  (aC (aQ (i:=2) nd rfl (Or.inl rfl) (aU bY (aV Z5 (hr.mono (by omega)) rfl m7.m m7.F.kp m7.b .nil aY (aj (pv 0) (aj (bJ (aj (pv 6) ak)) (aj (pv 2) (aj (pv 3) ak))))) au (λ_ _=>rfl)))
  (aH (uw (aV Z5 (hr.mono (by omega)) rfl m7.m m7.F.kp m7.b .nil aY (aj (pv 0) (aj (pv 1) (aj (pv 4) (aj (pv 3) ak))))) (rK rfl (fX (dw (i:=4) nd rfl (Or.inl rfl)) (fX (dw (i:=3) nd rfl (Or.inl rfl)) ni))))))))
  (aC (bF (PW.pt (pJ (bh (GR (n:=30) D_) (aV DY (hr.mono (by omega)) rfl iR.m iR.F.kp iR.b .nil aY (aj (aU bY (aV Kl (hr.mono (by omega)) rfl jR.m jR.F.kp jR.b .nil aY (aj (pv 0) (aj (pv 1) (aj (pv 2) ak)))) au (λ_ _=>rfl)) ak)) (bH (aj aD (aj au ak))) (bw _)) (rJ (bh (GR (n:=30) D_) (aV DY (hr.mono (by omega)) rfl iR.m iR.F.kp iR.b .nil aY (aj (aV ai9 (hr.mono (by omega)) rfl qz.m qz.F.kp qz.b .nil aY (aj (pv 2) ak)) ak)) (bH (aj aD (aj au ak))) (bw _))))) (aH (aW rG)) bG)
  (aC (bF (bh (GR (n:=30) D_) (aV DY (hr.mono (by omega)) rfl iR.m iR.F.kp iR.b .nil aY (aj (aU bY (aV Kl (hr.mono (by omega)) rfl jR.m jR.F.kp jR.b .nil aY (aj (pv 0) (aj (pv 1) (aj (pv 4) ak)))) au (λ_ _=>rfl)) ak)) (bH (aj aD (aj (pv 3) ak))) (bw _)) (aH (aW rG)) bG)
  (aC (aQ (i:=5) nd rfl (Or.inl rfl) (aF cC (aV fJ (hr.mono (by omega)) rfl bA.m bA.F.kp bA.b .nil aY (aj (pv 0) (aj (pv 1) ak))) (aF gK (gb pU (by rfl) T.jJ PySem.boot_len (aj (pv 2) ak)) au)))
  (aC (aQ (i:=7) nd rfl (Or.inl rfl) (aU dU (bJ (aj aD (aj aD (aj aD (aj aD (aj aD ak)))))) (aF cC (aV fJ (hr.mono (by omega)) rfl bA.m bA.F.kp bA.b .nil aY (aj (pv 0) (aj (pv 1) ak))) au) (λ_ _=>rfl)))
  (aC (uw (aV Kl (hr.mono (by omega)) rfl jR.m jR.F.kp jR.b .nil aY (aj (pv 0) (aj (pv 1) (aj (aF eO (aF eO (lV wN (pv 2) uJ (iY (pv 5))) (bJ (aj (aF jG (aF jG aD (pv 7)) aD) ak))) (lV wN (pv 2) (iY (pv 5)) uJ)) ak)))) (rK rfl (fX (dw (i:=8) nd rfl (Or.inl rfl)) (fX (dw (i:=9) nd rfl (Or.inl rfl)) ni))))
  (aH (aW (wJ (Ut (n:=30) D_) (aV DY (hr.mono (by omega)) rfl iR.m iR.F.kp iR.b .nil aY (aj (pv 8) ak)) (bH (aj aD (aj (aF gK (aU dU (pv 9) (pv 5) (λ_ _=>rfl)) au) ak))) (bw _))))))))))))),?_⟩
 have vJ:Str.ofString " "=ao [32]:=by decide +kernel
 have Ea:(ck 1:Int)=12:=by decide
 have t1:tN 1=18:=by decide
 refine⟨_,rfl,_,rfl,a,b,ns,n,rfl,g,by omega,λl t H1 s1 h1 hlb hl eZ=>?_⟩
 have g1:=g.go s1 h1 (by omega)
 have hT1:=hT.sb g.at_ s1
 refine⟨_,rfl,_,rfl,a,b,ns,n+2,rfl,g1,by omega,λv k n2 H2 s2 h2 z1 z2 hk tZ=>?_⟩
 have g2:=g1.go s2 h2 z1
 have hT2:=hT1.sb h1 s2
 have hl2:=s2 _ _ hlb hl
 have nA:=tZ.t
 have Km:=tZ.dep
 rw[t1] at nA
 rw[Ea] at z2
 refine⟨_,rfl,_,rfl,_,rfl,a,b,ns,n2,v,k,true,rfl,g2,hk,by omega,tZ.n,by omega,by omega,λlf tf n3 H3 s3 h3 z3 z4 Z6 hpc=>?_⟩
 have g3:=g2.go s3 h3 z3
 have yO:=hT2.sb h2 s3
 have hl3:=s3 _ _ hlb hl2
 have hk3:=KA.mono (s3.tu h2) _ hk
 have hfk:FK 4 18 k tf:=⟨hpc.mx,tZ.s,by omega,hpc.n,by have:=tf.rD;have:=hpc.dep;omega,by have:=hpc.len;omega⟩
 dsimp only[gA]
 refine jB (A:=RV _ _ _) (λσ' H'=>∃(x5 x6:Option V) (l lf:Addr) (v:V) (t k tf:Kd) (n':Int),σ'=[some (.ref a),some (.ref b),some (.ref l),some v,some (.ref lf),x5,x6,none,none,none]/\G0 K H' a b ns n'/\bU Pt cZ dg H'/\n<=n'/\n'<=n+100/\H' l=some (.lst (PV t.tk))/\l≠b/\RK 7 100 t/\KA H' v k/\H' lf=some (.lst (PV tf.tk))/\lf≠b/\FK 7 100 k tf) ?_ (λhB=>?_)
 . rintro _ H4 ⟨x5,x6,l,lf,v,t,k,tf,n4,rfl,g4,qL,y1,y2,zU,hlb,eZ,zT,Z7,ai_,rF⟩
   clear hfk hpc nA Km tZ z1 z2 z3 z4 Ea t1
   refine⟨_,rfl,_,rfl,_,rfl,a,b,l,ns,n4,t.tk,rfl,g4,by omega,zU,DR eZ.nn,by have:=eZ.tl;omega,λzs jj p qq ps n5 H5 s5 h5 y3 y4 hzs hal hzl kj JX asI=>⟨p,_,_,_,rfl,rfl,aM.of kj,rfl,?_⟩⟩
   have tl:=eZ.tl
   have ftl:=rF.tl
   have fdp:=rF.dep
   have g5:=g4.go s5 h5 y3
   have hT5:=qL.sb g4.at_ s5
   have lG:=s5 _ _ hlb zU
   have t_:=s5 _ _ ai_ Z7
   have o_:=KA.mono (s5.tu g4.at_) _ zT
   obtain⟨pt1,pt2⟩:=J5 eZ.nn hzs hal jj
   refine⟨spread zs jj,t,t.tk.length,0,rfl,by omega,pt1.e,eZ.dq,eZ.nn,by omega,hT5,.inr (.inr ⟨Nat.le_refl _,pt2,.inr ⟨eZ.bad,eZ.fw,λH6 vQ Eb u H7 s7 hu7=>?_⟩⟩)⟩
   have g7:=(g5.J6 hT5 vQ).go (SB.of s7) (s7 _ _ (vQ.ls hT5 h5)) (Int.le_refl _)
   have tD:=Eb.same s7
   have vI:=s7 _ _ (vQ.ls hT5 lG)
   have Z8:=s7 _ _ (vQ.ls hT5 t_)
   have Ec:=KA.mono ((vQ.tu hT5).trans (Tu.of s7)) _ o_
   refine⟨bC,λu2 hu2=>?_⟩
   obtain⟨H8,mZ,s8,c1⟩:=new1 hu2 (.tup [.str "none",.int 0])
   rw[mZ]
   refine J4 (DQ (s8 _ _ hu7) c1 (Kf _)) ⟨false,rfl,aZ ?_⟩
   have g8:=g7.go (SB.of s8) (s8 _ _ g7.at_) (Int.le_refl _)
   have hT8:=tD.same s8
   have Ko:=s8 _ _ vI
   have Z9:=s8 _ _ Z8
   have Z_:=KA.mono (Tu.of s8) _ Ec
   clear mZ zU Z7 zT qL g4 lG t_ o_ hT5 g5 vI Z8 Ec tD g7 Eb vQ
   refine⟨_,rfl,l,t.tk,rfl,Ko,λu hu=>(t.j7 eZ.nn u hu).tt,by omega,λH9 s9=>?_⟩
   have jl:(jn 40 (t.tk.map (·.tx))).length<=62000:=by
    have:=HB (c:=40) (xs:=t.tk.map (·.tx)) λx hx=>by
     obtain⟨z,hz,rfl⟩:=List.mem_map.mp hx
     exact(t.j7 eZ.nn z hz).tt.2.2
    rw[List.length_map] at this
    omega
   obtain⟨pj1,pj2⟩:=J5 eZ.nn (V3 40 t.tk) (Wd 40 t.tk (t.j7 eZ.nn)) 0
   rw[V4] at pj1 pj2
   have hT9:=hT8.same s9
   have g9:=g8.go (SB.of s9) (s9 _ _ g8.at_) (Int.le_refl _)
   refine⟨jn 40 (t.tk.map (·.tx)),t,t.tk.length,0,rfl,by omega,pj1.e,eZ.dq,eZ.nn,by omega,hT9,.inr (.inr ⟨Nat.le_refl _,pj2,.inr ⟨eZ.bad,eZ.fw,λvP vR aae u3 H11 vU ajd=>?_⟩⟩)⟩
   have Kq:=(g9.J6 hT9 vR).go (SB.of vU) (vU _ _ (vR.ls hT9 g9.at_)) (Int.le_refl _)
   have aaf:=aae.same vU
   have aag:=vU _ _ (vR.ls hT9 (s9 _ _ Ko))
   have aah:=vU _ _ (vR.ls hT9 (s9 _ _ Z9))
   have aai:=KA.mono ((vR.tu hT9).trans (Tu.of vU)) _ (KA.mono (Tu.of s9) _ Z_)
   refine⟨bC,λu4 hu4=>?_⟩
   obtain⟨H12,aaj,s12,c2⟩:=new1 hu4 (.tup [.str "none",.int 0])
   rw[aaj]
   refine J4 (DQ (s12 _ _ ajd) c2 (Kf _)) ⟨false,rfl,aZ ?_⟩
   have zV:=Kq.go (SB.of s12) (s12 _ _ Kq.at_) (Int.le_refl _)
   have aak:=aaf.same s12
   have aal:=s12 _ _ aag
   have aam:=s12 _ _ aah
   have yN:=KA.mono (Tu.of s12) _ aai
   clear aaj Ko Z9 Z_ hT8 g8 hT9 g9 aag aah aai aaf Kq aae vR
   refine⟨_,rfl,_,rfl,_,rfl,a,b,lf,ns,n5,tf.tk,rfl,zV,by omega,aam,DR rF.nn,by omega,λzs2 j2 p2 q2 ps2 n6 H13 Ed h13 y5 y6 ajf yr asO ajg asQ asR=>⟨p2,_,_,_,rfl,rfl,aM.of ajg,rfl,?_⟩⟩
   have g13:=zV.go Ed h13 y5
   have zW:=aak.sb zV.at_ Ed
   have aao:=Ed _ _ hlb aal
   have aap:=KA.mono (Ed.tu zV.at_) _ yN
   obtain⟨pt3,pt4⟩:=J5 rF.nn ajf yr j2
   refine⟨spread zs2 j2,tf,tf.tk.length,0,rfl,by omega,pt3.e,rF.dq,rF.nn,by omega,zW,.inr (.inr ⟨Nat.le_refl _,pt4,.inl ⟨k,rF.mx,rF.s,λr u5 H14 Ef aaq ajj ajk=>?_⟩⟩)⟩
   have Kr:=g13.J6 zW Ef
   have aar:=Ef.ls zW aao
   have aas:=KA.mono (Ef.tu zW) _ aap
   refine⟨_,rfl,bC,λu6 hu6=>?_⟩
   obtain⟨H15,aat,uc,c3⟩:=new1 hu6 (.tup [.str "kind",v])
   rw[aat]
   refine J4 (DQ (uc _ _ ajj) c3 (KA.rB k (by omega) (KA.mono (Tu.of uc) _ ajk) (KA.mono (Tu.of uc) _ aas))) ⟨false,rfl,aZ ?_⟩
   have Ks:=Kr.go (SB.of uc) (uc _ _ Kr.at_) (Int.le_refl _)
   have ajm:=aaq.same uc
   have ajn:=uc _ _ aar
   clear aat aal aam yN aak zV aao aap zW g13 aar aas aaq Kr Ef
   dsimp only[Fl,gA]
   refine jB (A:=nj _ _) (λσ' H'=>∃j:Nat,j<=t.tk.length/\σ'=[some (.ref a),some (.ref b),some (.ref l),some v,some (.ref lf),some (.int j),x6,none,none,none]/\G0 K H' a b ns (n6+1)/\bU Pt cZ dg H'/\H' l=some (.lst (PV t.tk))) ?_ (λhB=>?_)
   . rintro _ H16 ⟨j,hjl,rfl,Ku,ajp,Eh⟩
     refine jB (A:=nj _ _) (λσ' H'=>∃w,lH w/\σ'=[some (.ref a),some (.ref b),some (.ref l),some v,some (.ref lf),some (.int j),x6,some (SX w),none,none]/\G0 K H' a b ns (n6+2)/\bU Pt cZ dg H'/\H' l=some (.lst (PV t.tk))) ?_ (λhB=>?_)
     . rintro _ H17 ⟨w,hw,rfl,vV,ajr,aau⟩
       have hwl:=hw.len
       have ll:(PV t.tk).length<=100:=by rw[dI];exact tl
       refine⟨_,rfl,_,rfl,_,rfl,_,rfl,_,rfl,l,_,rfl,aL.of aau,λpa hpa=>?_⟩
       rw[show jX (PV t.tk) none (some (j:Int))=PV (t.tk.take j) by rw[Yy _ _ (by rw[dI];exact hjl)];exact List.map_take.symm] at *
       refine⟨_,rfl,_,_,rfl,rfl,?_,_,_,rfl,rfl,?_,cJ,λpb hpb=>?_⟩
       . rw[vJ,dB,dB];exact Nat.le_trans (show _<=100 by simp only[List.length_cons,List.length_nil];omega) (by decide)
       . rw[vJ,mj,dB,dB];exact Nat.le_trans (show _<=100 by simp only[List.length_append,List.length_cons,List.length_nil];omega) (by decide)
       obtain⟨H18,aaw,vW,e1,e2⟩:=news2 hpa hpb (.lst [.str (Str.ofString " "++ao w++Str.ofString " ")])
       rw[aaw]
       have e2':H18 pb=some (.lst (PV [gP w])):=by rw[e2,ai6];rfl
       clear aaw hpa hpb e2
       have tkl:(PV (t.tk.take j)).length<=100:=by rw[dI,List.length_take];omega
       have dkl:(PV (t.tk.drop j)).length<=100:=by rw[dI,List.length_drop];omega
       have o1:(PV [gP w]).length=1:=rfl
       refine⟨pa,pb,_,_,rfl,rfl,e1,e2',by rw[o1];exact Nat.le_trans (show _<=200 by omega) (by decide),λpc hpc=>?_⟩
       obtain⟨H19,aax,s19,e3⟩:=new1 hpc (.lst (PV (t.tk.take j)++PV [gP w]))
       rw[aax]
       clear aax hpc
       have aay:=vW.trans s19
       refine⟨_,rfl,_,rfl,_,rfl,l,_,rfl,aL.of (aay _ _ aau),λpd hpd=>?_⟩
       rw[show jX (PV t.tk) (some (j:Int)) none=PV (t.tk.drop j) by rw[Yx _ _ (by rw[dI];exact hjl)];exact List.map_drop.symm] at *
       obtain⟨H20,aaz,s20,e4⟩:=new1 hpd (.lst (PV (t.tk.drop j)))
       rw[aaz]
       clear aaz hpd
       refine⟨pc,pd,_,_,rfl,rfl,s20 _ _ e3,e4,by rw[List.length_append,o1];exact Nat.le_trans (show _<=300 by omega) (by decide),λpe hpe=>?_⟩
       obtain⟨H21,aaB,s21,e5⟩:=new1 hpe (.lst (PV (t.tk.take j)++PV [gP w]++PV (t.tk.drop j)))
       rw[aaB]
       clear aaB hpe
       have Kv:=aay.trans (s20.trans s21)
       have e5':H21 pe=some (.lst (PV (t.tk.take j++gP w::t.tk.drop j))):=by
        rw[e5,<-jA,<-jA,List.append_assoc];rfl
       have Kw:=vV.go (SB.of Kv) (Kv _ _ vV.at_) (Int.le_refl _)
       have ajx:=ajr.same Kv
       refine⟨a,b,pe,ns,n6+2,t.tk.take j++gP w::t.tk.drop j,rfl,Kw,by omega,e5',λu hu=>?_,?_,λEi j3 p3 q3 ps3 n7 H22 s22 h22 y7 y8 ajz ajA asY ajB ajC ajD=>⟨p3,_,rfl,aM.of ajB,rfl,_,_,rfl,_,_,rfl,rfl,?_⟩⟩
       . rcases List.mem_append.mp hu with hu|hu
         . exact DR eZ.nn u (List.mem_of_mem_take hu)
         . rcases List.mem_cons.mp hu with rfl|hu
           . exact ah9 hw
           . exact DR eZ.nn u (List.mem_of_mem_drop hu)
       . rw[dI] at tkl dkl
         rw[List.length_append,List.length_cons];omega
       obtain⟨z,hz,pe1,bad⟩:=ai2 eZ.nn hw hjl ajz ajA j3
       have g22:=Kw.go s22 h22 y7
       have aaD:=ajx.sb Kw.at_ s22
       refine⟨_,rfl,spread Ei j3,t,j,_,rfl,by omega,pe1,eZ.dq,eZ.nn,by omega,aaD,ai5 (λu7 H23 Ej ajG=>?_) λhge=>?_⟩
       . refine⟨_,rfl,_,rfl,q3,ps3,_,_,rfl,rfl,aL.of (Ej _ _ ajC),gZ (ajD j z hz),_,_,rfl,rfl,bC,λu8 hu8=>?_⟩
         have El:=Same.new (o:=.tup [.str "text",.int ((((spread (Ei.take j) 0).length+z.1:Nat):Int)+1)]) hu8
         have g23:=g22.go (SB.of (Ej.trans El)) ((Ej.trans El) _ _ h22) (Int.le_refl _)
         refine ai1 (DQ (El _ _ ajG) aG ?_) (fin n7 _ g23 (by omega) (by omega) (aaD.same (Ej.trans El)))
         rw[show((((spread (Ei.take j) 0).length+z.1+1:Nat)):Int)=(((spread (Ei.take j) 0).length+z.1:Nat):Int)+1 by omega]
         exact Kf _
       . rw[show t.tk.length=j by omega];exact bad
     . refine⟨abW,λlw Ky=>?_⟩
       obtain⟨H17,ajJ,Em,d1⟩:=new1 Ky (.lst [.str "A",.str "-",.str "00",.str "~",.str "nopqrstuvwxyz"])
       rw[ajJ]
       have vV:=Ku.go (SB.of Em) (Em _ _ Ku.at_) (Int.le_refl _)
       refine⟨_,rfl,_,rfl,a,b,ns,n6+1,rfl,vV,by omega,λm2 H18 m20 m21 vW h18=>?_⟩
       obtain⟨w,hw,hat⟩:=ai3 (m:=m2 % 5) (by omega) (by omega)
       have ajK:lw≠b:=(λz=>by rw[z,Ku.at_] at Ky;cases Ky)
       refine⟨_,_,rfl,rfl,(by show(0:Int)<_;decide),lw,_,_,_,rfl,rfl,aL.of (vW _ _ ajK d1),hat,?_⟩
       have g18:=vV.go vW h18 (by omega)
       exact hB _ _ ⟨w,hw,rfl,by rw[show n6+2=n6+1+1 by omega];exact g18,(ajp.same Em).sb vV.at_ vW,vW _ _ hlb (Em _ _ Eh)⟩
   . refine⟨_,rfl,_,rfl,a,b,ns,n6,rfl,Ks,by omega,λm1 H16 m10 m11 zc h16=>?_⟩
     have Eh:=zc _ _ hlb ajn
     obtain⟨j,hj⟩:∃j:Nat,m1 % (((PV t.tk).length:Int)+1)=(j:Int):=⟨(m1 % (((PV t.tk).length:Int)+1)).toNat,by have:=Int.emod_nonneg m1 (show(((PV t.tk).length:Int)+1)≠0 by omega);omega⟩
     have hjl:j<=t.tk.length:=by
      have:=Int.emod_lt_of_pos m1 (show(0:Int)<(((PV t.tk).length:Int)+1) by omega)
      rw[hj,dI] at this
      omega
     refine⟨_,rfl,l,_,rfl,.inl (aL.of Eh),_,_,rfl,rfl,_,_,rfl,rfl,by omega,?_⟩
     exact hB _ _ ⟨j,hjl,by rw[<-hj];rfl,Ks.go zc h16 (by omega),ajm.sb Ks.at_ zc,Eh⟩
 . refine⟨_,rfl,_,rfl,a,b,ns,n3,rfl,g3,by omega,λr H0 r0 r1 s0 h0=>⟨_,_,rfl,rfl,(by show(0:Int)<_;decide),_,rfl,by omega,by omega,?_⟩⟩
   generalize hc:(r % 4).toNat=cnt
   have ajN:cnt<=3:=by omega
   have lfb:=DW Z6 h3
   refine uD (n:=cnt) (λi σ H'=>∃(x5 x6:Option V) (l lf:Addr) (v:V) (t k tf:Kd) (n':Int),σ=[some (.ref a),some (.ref b),some (.ref l),some v,some (.ref lf),x5,x6,none,none,none]/\G0 K H' a b ns n'/\bU Pt cZ dg H'/\n<=n'/\n'<=n+40+2 * i/\H' l=some (.lst (PV t.tk))/\RK (4+i) (40+10 * i) t/\KA H' v k/\H' lf=some (.lst (PV tf.tk))/\FK (4+i) (18+10 * i) k tf) ?_ ?_ ?_
   . exact⟨_,_,l,lf,v,t,k,tf,n3+1,rfl,g3.go s0 h0 (by omega),yO.sb h3 s0,by omega,by omega,s0 _ _ hlb hl3,eZ,KA.mono (s0.tu h3) _ hk3,s0 _ _ lfb Z6,hfk⟩
   . rintro i σ H5 hi ⟨x5,x6,l,lf,v,t,k,tf,n5,rfl,g5,hT5,w1,w2,lG,En,o_,t_,Eo⟩
     clear hfk hpc nA Km tZ z1 z2 z3 z4 Ea t1 hc r0 r1
     have tl5:=En.tl
     have as8:=Eo.tl
     refine⟨_,rfl,b,_,_,_,rfl,rfl,aL.of g5.at_,rfl,?_⟩
     refine⟨_,rfl,_,rfl,cJ,λb2 hb2=>?_⟩
     have s5:Same H5 (upd H5 b2 (.lst [.int n5])):=Same.new hb2
     refine⟨_,rfl,_,rfl,a,b2,ns,n5,l,v,t,k,rfl,⟨g5.sy.ZM s5,g5.len,aG,g5.pos⟩,by omega,s5 _ _ lG,by omega,KA.mono (Tu.of s5) _ o_,λr1 l' v' t' k' H6 sb6 hb6 hr6 vA as_ hk6 wr6=>⟨r1,_,_,_,rfl,rfl,aM.of hr6,rfl,?_⟩⟩
     have s6:=ai4 hb2 sb6
     have g6:=g5.go (SB.of s6) (s6 _ _ g5.at_) (Int.le_refl _)
     have Eb:=hT5.same s6
     refine⟨_,rfl,_,rfl,_,rfl,_,rfl,a,b,ns,n5,lf,v,tf,k,rfl,g6,by omega,s6 _ _ t_,by omega,KA.mono (Tu.of s6) _ o_,λr2 l2 v2 t2 k2 H7 Kz hb7 tY vI atb Ec wr7=>⟨r2,_,rfl,aM.of tY,rfl,_,_,rfl,_,_,rfl,rfl,?_⟩⟩
     exact⟨_,_,l',l2,v2,t',k2,t2,n5+2,rfl,g6.go Kz hb7 (by omega),Eb.sb g6.at_ Kz,by omega,by omega,Kz _ _ (DW vA g6.at_) vA,wr6.rough En,Ec,vI,wr7.fine Eo⟩
   . rintro σ H5 ⟨x5,x6,l,lf,v,t,k,tf,n5,rfl,g5,hT5,w1,w2,lG,En,o_,t_,Eo⟩
     clear hfk hpc nA Km tZ z1 z2 z3 z4 Ea t1 hc r0 r1
     exact hB _ _ ⟨x5,x6,l,lf,v,t,k,tf,n5,rfl,g5,hT5,w1,by omega,lG,DW lG g5.at_,En.mono (by omega) (by omega),o_,t_,DW t_ g5.at_,Eo.mono (by omega) (by omega)⟩
end
noncomputable def KC (K:W.Frag) (Pt:Addr):Sp:=λvs H Q _=>∃(a:Addr) (ns:List Int),vs=[.ref a]/\jK K H a ns/\ns.length<=63/\bU Pt cZ dg H/\∀H',Q (.bl true) H'
section
variable {P:Program}{w:World}{K:W.Frag}{mg:Str->Option Value}{base:Heap}
variable {Pt:Addr}
theorem aaE:bR ["_law_script","_law_at","_law_turn"] ["_law_script"] (aN (top 49)):=cA
theorem ajU (T:Tb mg)(Ep:Dn K mg "law" ["_law_script"] (top 49) ajV ajW)(rE:Dn K mg "_law_one" ["_law_script","_law_at"] (top 48) DX Kh)(ajX:aB P w K mg base aO (101) DX Kh ["_law_script","_law_at"] (Z2 K Pt)):aB P w K mg base aO (102) ajV ajW ["_law_script"] (KC K Pt):=by
 refine Ep.F.ok aaE (λvs H Q E h=>?_) (λcdv A outer s H vs Q E hr h=>?_)
 . obtain⟨a,ns,rfl,_⟩:=h
   rfl
 obtain⟨a,ns,rfl,hS,h63,hT,q⟩:=h
 have nd:=aaE.nd
 refine⟨_,(aC (aQ (i:=1) nd rfl (Or.inl rfl) (bJ (aj au ak)))
  (aC (lQ PassesOwn.never rfl (wG rfl T.uV (aj (aF gK au (gb (acT rfl) (by rfl) T.afj boot_min (aj au (aj (aF dR (gb pU (by rfl) T.jJ PySem.boot_len (aj (pv 0) ak)) au) ak)))) ak)) (dw (i:=2) nd rfl (Or.inl rfl)) (aH (bF (oE (iV (aV ajX (hr.mono (by omega)) rfl rE.m rE.F.kp rE.b .nil aY (aj (pv 0) (aj (pv 1) ak))))) (aH (aW rG)) bG)))
  (aH (aW rG)))),?_⟩
 refine⟨cJ,λb hb=>?_⟩
 have s0:Same H (upd H b (.lst [.int 0])):=Same.new hb
 have aaF:=jK.ZM hS s0
 have hbb:upd H b (.lst [.int 0]) b=some (.lst [.int 0]):=aG
 have hT0:=hT.same s0
 generalize upd H b (.lst [.int 0])=H0 at *
 have vA:(0:Int)<=((ns.map V.int).length:Int) / 6:=Int.ediv_nonneg (by omega) (by decide)
 refine⟨_,rfl,a,_,rfl,.inl aaF.sq,_,_,rfl,rfl,⟨by decide,by decide⟩,_,_,rfl,_,_,rfl,rfl,_,rfl,?_,?_,?_⟩
 . split <;> omega
 . split <;> omega
 generalize hc:(1+(if((ns.map V.int).length:Int) / 6<5 then((ns.map V.int).length:Int) / 6 else 5)).toNat=cnt
 have ajN:cnt<=6:=by split at hc <;> omega
 refine uD (n:=cnt) (λi σ H'=>∃(x1:Option V) (n:Int),σ=[some (.ref a),some (.ref b),x1]/\G0 K H' a b ns n/\bU Pt cZ dg H'/\n<=10000 * i) ?_ ?_ ?_
 . exact⟨_,0,rfl,⟨aaF,h63,hbb,by omega⟩,hT0,by omega⟩
 . rintro i σ H' hi ⟨x1,n,rfl,g,hT',hn⟩
   have hi6:(i:Int)<=6:=by omega
   refine⟨_,rfl,_,rfl,a,b,ns,n,rfl,g,hT',by omega,λn' H2 g2 z1 z2 hT2=>⟨_,rfl,aZ ?_⟩⟩
   exact⟨_,n',rfl,g2,hT2,by omega⟩
 . rintro σ H0 _
   exact q H0
end
end Pb
namespace Pb
open PySem PySem.W
noncomputable def treeOf:List Obj->Nat->BT->Option BT
 |[],_,t=>some t
 |o::l,n,t=>match((t.ins n o).get n).isSome with
  |true=>treeOf l (n+1) (t.ins n o)
  |false=>none
theorem aaG {life:Life}:∀(l:List Obj) (n:Nat) (t t':BT),treeOf l n t=some t'->absHeap t' (n+l.length) life=⟨(absHeap t n life).objs++l.toArray,life⟩
 |[],n,t,t',h=>by
  cases h
  show absHeap t n life=_
  have:(absHeap t n life).objs++#[]=(absHeap t n life).objs:=Array.append_empty
  rw[this];rfl
 |o::l,n,t,t',h=>by
  unfold treeOf at h
  cases e:((t.ins n o).get n).isSome with
  |false=>rw[e] at h;cases h
  |true=>
   rw[e] at h
   have:=aaG (life:=life) l (n+1) _ t' h
   rw[absHeap_ins e] at this
   have e2:n+(o::l).length=n+1+l.length:=by rw[List.length_cons];omega
   rw[e2,this]
   show Heap.mk ((absHeap t n life).objs.push o++l.toArray) life=_
   congr 1
   apply Array.ext'
   simp
noncomputable def zX (tb:String->Option Builtin) (p:Program) (w:World) (n₀:Nat) (ann:Option Value):Nat->SharedT->Thread->Option SharedT
 |0,_,_=>none
 |n+1,s,t=>match through t with
  |true=>some s
  |false=>match stepOk n₀ ann t with
   |false=>none
   |true=>match stepT (denote tb) p w s t with
    |some (s',t')=>zX tb p w n₀ ann n s' t'
    |none=>none
theorem aaH {tb:String->Option Builtin}{p:Program}{w:World}{n₀:Nat}{ann:Option Value}:∀{n:Nat}{s s':SharedT}{t:Thread},zX tb p w n₀ ann n s t=some s'->topRun tb p w n₀ ann n s.abs t=some s'.abs
 |0,_,_,_,h=>by cases h
 |n+1,s,s',t,h=>by
  unfold zX at h
  unfold topRun
  cases he:through t with
  |true=>rw[he] at h;cases h;rfl
  |false=>
   rw[he] at h
   cases hk:stepOk n₀ ann t with
   |false=>rw[hk] at h;cases h
   |true=>
    rw[hk] at h
    cases hs:stepT (denote tb) p w s t with
    |none=>rw[hs] at h;cases h
    |some r=>obtain⟨s₂,t₂⟩:=r;rw[hs] at h;rw[stepT_spec hs];exact aaH h
noncomputable abbrev KH:=@W.Fast.tw10156331382660048174
noncomputable abbrev KJ:=@W.Fast.tw11892475500146522536
noncomputable abbrev KN:=@W.Fast.tw14364793385576792824
noncomputable abbrev okQ:=@W.Fast.tw6613529449190102663
noncomputable abbrev seenQ:=@W.Fast.tw4187177175401517315
noncomputable def Es (p:Program) (w:World) (n₀:Nat) (ann:Option Value):Nat->SharedT->Thread->Option SharedT
 |0,_,_=>none
 |n+1,s,t=>match through t with
  |true=>some s
  |false=>match okQ n₀ ann t with
   |false=>none
   |true=>match KH (KJ KN) p w s t with
    |some (s',t')=>Es p w n₀ ann n s' t'
    |none=>none
theorem aaJ {p:Program}{w:World}{n₀:Nat}{ann:Option Value}:∀(n:Nat) (s:SharedT) (t:Thread),Es p w n₀ ann n s t=zX treeTable p w n₀ ann n s t
 |0,_,_=>rfl
 |n+1,s,t=>by
  unfold Es zX
  have e1:okQ n₀ ann t=stepOk n₀ ann t:=congrFun (congrFun (congrFun W.Fast.te6613529449190102663.symm _) _) _
  have e2:KH (KJ KN) p w s t=stepT (denote treeTable) p w s t:=by rw[show @KH=@stepT from W.Fast.te10156331382660048174.symm,show @KJ=@denote from W.Fast.te11892475500146522536.symm,show @KN=@treeTable from W.Fast.te14364793385576792824.symm]
  rw[e1,e2]
  simp only[aaJ n]
noncomputable def looksAt (p q:Program) (loose:List Str) (Xt:Shared->Bool) {α:Type}(Yf:Shared->α) (g0:Bool) (h₀:Heap) (s:Shared):=
 ((staticsOk (importedModules p.main.body) h₀ s.heap && namesBound p s.heap && gensDone s && laidKept h₀ s.heap),seenQ q loose (importedModules p.main.body) Xt g0 s,Yf s)
noncomputable def aaK (p q:Program) (loose:List Str) (Xt:Shared->Bool) {α:Type}(Yf:Shared->α) (N:Nat) (g0:Bool) (w:World) (os:OsState):=
 match(boot_heap w.params).isNs mainGlobals with
 |true=>match treeOf (boot_heap w.params).objs.toList 0 .nil with
  |some T=>(Es p w (boot_heap w.params).objs.size ((boot_heap w.params).nsMap mainGlobals "__annotations__") N ⟨T,(boot_heap w.params).objs.size,(boot_heap w.params).life,#[],boot_drawn,boot_toks,os⟩ (topStub p)).map λ(s:SharedT)=>looksAt p q loose Xt Yf g0 (boot_heap w.params) s.abs
  |none=>none
 |false=>none
theorem ajY {p q:Program}{loose:List Str}{Xt:Shared->Bool}{α:Type}{Yf:Shared->α}{Ya:World->α}{N:Nat}{g0:Bool}
 (e:opening p=plainProg p.main.scope.names) (hN:Nat.ble 600 N=true) (f:∀s,fenceModules? p s=some s)
 (run:∀w os,aaK p q loose Xt Yf N g0 w os=some (true,openGood q loose,Ya w)):LeftO p q loose Xt Yf Ya N g0:=λw=>by
 obtain⟨⟨h,gs,d,k,os⟩,e1,e'⟩:=Option.map_eq_some_iff.mp (boot_open e hN f w)
 obtain⟨rfl,rfl,rfl,rfl⟩:h=boot_heap w.params/\gs=Array.mk []/\d=boot_drawn/\k=boot_toks:=by simpa using e'
 have r:=run w os
 unfold aaK at r
 cases z:(boot_heap w.params).isNs mainGlobals with
 |false=>rw[z] at r;cases r
 |true=>
  rw[z] at r
  dsimp only at r
  cases y:treeOf (boot_heap w.params).objs.toList 0 .nil with
  |none=>rw[y] at r;cases r
  |some T=>
   rw[y] at r
   obtain⟨s,r1,r2⟩:=Option.map_eq_some_iff.mp r
   rw[aaJ] at r1
   have r3:=aaH r1
   have hT:=aaG (life:=(boot_heap w.params).life) _ _ _ _ y
   have hS:SharedT.abs ⟨T,(boot_heap w.params).objs.size,(boot_heap w.params).life,#[],boot_drawn,boot_toks,os⟩=⟨boot_heap w.params,#[],boot_drawn,boot_toks,os⟩:=by
    unfold SharedT.abs
    dsimp only
    rw[Nat.zero_add,Array.length_toList] at hT
    rw[hT]
    have e0:(absHeap BT.nil 0 (boot_heap w.params).life).objs=#[]:=rfl
    rw[e0,Array.empty_append,Array.toArray_toList]
   rw[hS] at r3
   have t:topFrom treeTable p w N ⟨boot_heap w.params,#[],boot_drawn,boot_toks,os⟩=some s.abs:=by
    unfold topFrom
    dsimp only
    rw[z,r3]
    have l1:=congrArg (λz=>z.1) r2
    dsimp only[looksAt] at l1
    show(match staticsOk (importedModules p.main.body) (boot_heap w.params) s.abs.heap && namesBound p s.abs.heap && gensDone s.abs && laidKept (boot_heap w.params) s.abs.heap with|true=>_|false=>_)=_
    rw[l1]
   unfold openEnds
   rw[e1]
   show(topFrom treeTable p w N _).map _=_
   rw[t]
   have l2:=congrArg (λz=>z.2) r2
   dsimp only[looksAt] at l2
   rw[show @seenQ=@openSeen from W.Fast.te4187177175401517315.symm] at l2
   exact congrArg some l2
end Pb
namespace Pb
open PySem L2
theorem cP {K:W.Frag}{mg:Str->Option Value}{h:Heap}{x:Str}{ps:List Str}{st:Stmt}{f:Addr}{oc:Value}{od an:Option Addr}{osl:Array (Option Value)}{kV doc pm cdv ct:Value}(X:K.In h)(G:h.Ns mainGlobals mg)(a:W.nsIn K mainGlobals x=some (some (.ref f)))
 (l:K.lookup f=some ⟨oc,od,.func (W.fnOf x x (bL st) (bI st) (aN st) .none kV doc pm an cdv ct),osl⟩) (c:W.codeIn K cdv x=true) (k:W.keepIn K (.ref f)=true)
 (hb:∀(kV doc pm:Value) (an:Option Addr) (cdv ct:Value) (us:List Value),us.length=ps.length->bindArgs (W.fnOf x x (bL st) (bI st) (aN st) .none kV doc pm an cdv ct) ⟨us,[]⟩=pure (ps.zip us)):
 Dn K mg x ps st f (W.fnOf x x (bL st) (bI st) (aN st) .none kV doc pm an cdv ct):=by
 have F:=adI (st:=st) l c k
 exact⟨F,F.binds hb,W.mg_of X G a⟩
theorem pA {K:W.Frag}{x ql:Str}{ps:List Str}{st:Stmt}{f:Addr}{oc:Value}{od an:Option Addr}{osl:Array (Option Value)}{kV doc pm cdv ct:Value}
 (l:K.lookup f=some ⟨oc,od,.func (W.fnOf x ql (bL st) (bI st) (aN st) .none kV doc pm an cdv ct),osl⟩) (c:W.codeIn K cdv ql=true) (k:W.keepIn K (.ref f)=true)
 (hb:∀(kV doc pm:Value) (an:Option Addr) (cdv ct:Value) (us:List Value),us.length=ps.length->bindArgs (W.fnOf x ql (bL st) (bI st) (aN st) .none kV doc pm an cdv ct) ⟨us,[]⟩=pure (ps.zip us)):
 Dm K x ql ps st f (W.fnOf x ql (bL st) (bI st) (aN st) .none kV doc pm an cdv ct):=by
 have F:jZ K x ql st f _:=⟨⟨oc,od,kV,doc,pm,an,cdv,ct,osl,rfl,l,c⟩,k⟩
 exact⟨F,F.binds hb⟩
theorem ajZ {K:W.Frag}{h:Heap}{f:Addr}(X:K.In h)(e:W.isFn K (.ref f)=true):∃o,h.get? f=some o/\o.cls=.type "function":=by
 have e:W.typeIn K (.ref f)=some (.type "function"):=beq_iff_eq.mp e
 obtain⟨o,ho,hc⟩:=Option.map_eq_some_iff.mp (show(K.lookup f).map (·.cls)=_ from e)
 exact⟨o,X _ _ ho,hc⟩
open PySem.W in
theorem aj0 {K:Frag}{h:Heap}{N:Addr}{n:Str}{v:Value}(X:K.In h)(ok:nsOkIn K N=true)(e:nsIn K N n=some (some v)):h.nsMap N n=some v:=by
 obtain⟨o,es,ep,ho,hd,_,hf⟩:h.Ns N (h.nsMap N):=.of_isNs (isNs_of_in X ok)
 unfold nsIn at e
 split at e
 . rename_i c d es' n' sl q
   have:=X _ _ q
   rw[ho] at this
   cases this
   cases hd
   split at e
   . rename_i e' he
     cases e
     rw[<-hf]
     unfold nsFind findBy
     rw[<-Array.find?_toList,he]
     rfl
   . split at e <;> cases e
 . cases e
open PySem.W in
noncomputable def KQ (K:Frag) (C fI:Addr) (bmB:List Value) (newId:String):Bool:=match K.lookup C with
 |some ⟨.type "type",_,.cls cd,sl⟩=>(match cd.mro,sl.toList with
  | .ref C'::bm,[_,_,_,_,some (.builtin n),_]=>C' == C && n == newId && !cd.hasDel && tailIn K bmB bm && nsOkIn K cd.ns && nsIn K cd.ns "__init__" == some (some (.ref fI))
  |_,_=>false)
 |_=>false
theorem aj1 {K:W.Frag}{h:Heap}{C fI:Addr}{g_:List Value}{nid:String}(X:K.In h)(q:KQ K C fI g_ nid=true)(hf:W.isFn K (.ref fI)=true):p8 h C fI g_ nid:=by
 unfold KQ at q
 split at q
 next dct dat KR look=>
  split at q
  next D tl s0 s1 s2 s3 nm s5 hmro hsl=>
   obtain⟨q,ud⟩:=Bool.and_eq_true_iff.mp q
   obtain⟨q,hNs⟩:=Bool.and_eq_true_iff.mp q
   obtain⟨q,hTail⟩:=Bool.and_eq_true_iff.mp q
   obtain⟨q,kO⟩:=Bool.and_eq_true_iff.mp q
   obtain⟨hC,hId⟩:=Bool.and_eq_true_iff.mp q
   have hC:=beq_iff_eq.mp hC
   have hId:=beq_iff_eq.mp hId
   have ud:=beq_iff_eq.mp ud
   have kO:dat.hasDel=false:=by
    cases e:dat.hasDel with
    |false=>rfl
    |true=>rw[e] at kO;cases kO
   subst hC
   subst hId
   obtain⟨c1,c2,c3,c4,c5,c6,c7,c8,c9,qe,qg⟩:=dat
   have hmro:c3=_:=hmro
   have kO:qg=false:=kO
   subst hmro
   subst kO
   obtain⟨sl⟩:=KR
   have hsl:sl=_:=hsl
   subst hsl
   obtain⟨oI,hI,hcI⟩:=ajZ X hf
   exact⟨tl,c4,c1,c5,c2,c6,c7,c8,c9,qe,dct,s0,s1,s2,s3,s5,_,oI,X _ _ look,.of_isNs (W.isNs_of_in X hNs),aj0 X hNs ud,W.tail_of_in X hTail,hI,hcI⟩
  next=>cases q
 next=>cases q
theorem bind1 {x0:Str}{f:FuncData}(h:∀a,bindArgs f ⟨[a],[]⟩=pure ([x0].zip [a])):∀us:List Value,us.length=1->bindArgs f ⟨us,[]⟩=pure ([x0].zip us)
 |[a],_=>h a
theorem jF {x0 x1:Str}{f:FuncData}(h:∀a b,bindArgs f ⟨[a,b],[]⟩=pure ([x0,x1].zip [a,b])):∀us:List Value,us.length=2->bindArgs f ⟨us,[]⟩=pure ([x0,x1].zip us)
 |[a,b],_=>h a b
theorem vX {x0 x1 x2:Str}{f:FuncData}(h:∀a b c,bindArgs f ⟨[a,b,c],[]⟩=pure ([x0,x1,x2].zip [a,b,c])):∀us:List Value,us.length=3->bindArgs f ⟨us,[]⟩=pure ([x0,x1,x2].zip us)
 |[a,b,c],_=>h a b c
theorem uf {x0 x1 x2 x3:Str}{f:FuncData}(h:∀a b c d,bindArgs f ⟨[a,b,c,d],[]⟩=pure ([x0,x1,x2,x3].zip [a,b,c,d])):∀us:List Value,us.length=4->bindArgs f ⟨us,[]⟩=pure ([x0,x1,x2,x3].zip us)
 |[a,b,c,d],_=>h a b c d
theorem aj3 {x:V}{u:Value}(h:Ac u=some x):RelV x u:=by
 cases u <;> first|(cases h;done)|(cases h;first|exact⟨_,rfl⟩|rfl)
theorem aaL:∀{xs:List V}{us:List Value},us.map Ac=xs.map some->Vals xs us
 |[],[],_=>.nil
 |_::_,_::_,h=>by
  injection h with h1 h2
  exact .cons (aj3 h1) (aaL h2)
 |[],_::_,h=>by cases h
 |_::_,[],h=>by cases h
theorem aj4 {K:W.Frag}{h:Heap}{mg:Str->Option Value}{x:Str}{C:Addr}{g_:List Value}{nid:String}(X:K.In h)(g:mg x=some (.ref C))(q:W.excIn K C g_ nid=true):PyProof.Rows.OwnCls x C g_ nid mg h:=by
 refine⟨g,?_⟩
 unfold W.excIn at q
 split at q
 next dct dat KR look=>
  split at q
  next D tl s0 s1 s2 s3 nm s5 hmro hsl=>
   obtain⟨q,ud⟩:=Bool.and_eq_true_iff.mp q
   obtain⟨q,hNs⟩:=Bool.and_eq_true_iff.mp q
   obtain⟨q,hTail⟩:=Bool.and_eq_true_iff.mp q
   obtain⟨q,kO⟩:=Bool.and_eq_true_iff.mp q
   obtain⟨hC,hId⟩:=Bool.and_eq_true_iff.mp q
   have hC:=beq_iff_eq.mp hC
   have hId:=beq_iff_eq.mp hId
   have ud:=beq_iff_eq.mp ud
   have kO:dat.hasDel=false:=by
    cases e:dat.hasDel with
    |false=>rfl
    |true=>rw[e] at kO;cases kO
   subst hC
   subst hId
   obtain⟨c1,c2,c3,c4,c5,c6,c7,c8,c9,qe,qg⟩:=dat
   have hmro:c3=_:=hmro
   have kO:qg=false:=kO
   subst hmro
   subst kO
   obtain⟨sl⟩:=KR
   have hsl:sl=_:=hsl
   subst hsl
   exact⟨tl,c4,c1,c5,c2,c6,c7,c8,c9,qe,dct,s0,s1,s2,s3,s5,_,X _ _ look,.of_isNs (W.isNs_of_in X hNs),W.nsMap_none_of_in X hNs ud,W.tail_of_in X hTail⟩
  next=>cases q
 next=>cases q
theorem all_mk {l:W.OpenLaw}{w:World}{K:W.Frag}{h:Heap}{mg:Str->Option Value}{fa:Addr}{f0 f1 f2 f3 f4 f5 f6 f7 f8 f9 KY f11 KZ K1 K3 K4 K5 K6 K7 K8 K9 K_ La Lb Ld Le Lf Lg Lh Li Lj Lk f32 Ln Lp:Addr}(X:K.In h)(G:h.Ns mainGlobals mg)(hfa:mg "law"=some (.ref fa))
 {od0 an0 od1 an1 od2 an2 od3 an3 od4 an4 od5 an5 od6 an6 od7 an7 od8 an8 od9 an9 akp akq akr aks akt aku akv akx aky akz akA akB akC akD akE akF akG akH akI akJ akK akL akM akN akO akP akQ akR akS akT akU akV akW akX akY akZ ak0 ak1 ak2 ak3 ak4 ak5 ak6 ak7 ak8 ak9 ak_ ala alb aaM:Option Addr} {sl0 sl1 sl2 sl3 sl4 sl5 sl6 sl7 sl8 sl9 alm aln alo alp alq alr als alu alv alw alx aly alz alA alB alC alD alE alF alG alH alI alJ alK alL:Array (Option Value)} {oc0 kV0 dc0 pm0 cd0 ct0 oc1 kV1 dc1 pm1 cd1 ct1 oc2 kV2 dc2 pm2 Lq ct2 oc3 kV3 dc3 pm3 cd3 ct3 oc4 kV4 dc4 pm4 cd4 ct4 oc5 kV5 dc5 pm5 cd5 ct5 oc6 kV6 dc6 pm6 cd6 ct6 oc7 kV7 dc7 pm7 cd7 ct7 oc8 kV8 dc8 pm8 cd8 ct8 oc9 kV9 dc9 pm9 cd9 ct9 amA amB amC amD aaW amE amF amG amH amI aaX amJ amK amL amM amN aaY amO amP amQ amR amS aaZ amT amU amV amW amX aa0 amY amZ am9 am_ ana aa1 anb anc ane anf ang aa2 anh ani anj ank anl aa3 anm ano anp anq anr aa4 ant anu anv anw anx aa5 anz anA anB anC anD aa6 anE anF anG anH anI aa7 anJ anK anL anM anN aa8 anO anP anQ anR anS aa9 anT anU anV anW anY aa_ anZ an_ aoa aob aoc abb aod aoe aof aog aoh abd aoi aoj aok aol aom abe aon aoo aop aoq aor abf aos aot aou aov aow abg aox aoy aoz aoA aoB abh aoC aoD aoE aoF aoG abj aoH aoI aoJ aoK aoL abk aoM aoN aoO aoP aoQ abl aoR aoS abm abn abo Lr abp:Value}
 (a0:W.nsIn K mainGlobals "is_plain"=some (some (.ref f0))) (l0:K.lookup f0=some ⟨oc0,od0,.func (W.fnOf "is_plain" "is_plain" (bL (top 6)) (bI (top 6)) (aN (top 6)) .none kV0 dc0 pm0 an0 cd0 ct0),sl0⟩) (c0:W.codeIn K cd0 "is_plain"=true) (k0:W.keepIn K (.ref f0)=true)
 (a1:W.nsIn K mainGlobals "kind_at"=some (some (.ref f1))) (l1:K.lookup f1=some ⟨oc1,od1,.func (W.fnOf "kind_at" "kind_at" (bL (top 7)) (bI (top 7)) (aN (top 7)) .none kV1 dc1 pm1 an1 cd1 ct1),sl1⟩) (c1:W.codeIn K cd1 "kind_at"=true) (k1:W.keepIn K (.ref f1)=true)
 (a2:W.nsIn K mainGlobals "sorted_fields"=some (some (.ref f2))) (l2:K.lookup f2=some ⟨oc2,od2,.func (W.fnOf "sorted_fields" "sorted_fields" (bL (top 8)) (bI (top 8)) (aN (top 8)) .none kV2 dc2 pm2 an2 Lq ct2),sl2⟩) (c2:W.codeIn K Lq "sorted_fields"=true) (k2:W.keepIn K (.ref f2)=true)
 (a3:W.nsIn K mainGlobals "record_of"=some (some (.ref f3))) (l3:K.lookup f3=some ⟨oc3,od3,.func (W.fnOf "record_of" "record_of" (bL (top 9)) (bI (top 9)) (aN (top 9)) .none kV3 dc3 pm3 an3 cd3 ct3),sl3⟩) (c3:W.codeIn K cd3 "record_of"=true) (k3:W.keepIn K (.ref f3)=true)
 (a4:W.nsIn K mainGlobals "either_of"=some (some (.ref f4))) (l4:K.lookup f4=some ⟨oc4,od4,.func (W.fnOf "either_of" "either_of" (bL (top 10)) (bI (top 10)) (aN (top 10)) .none kV4 dc4 pm4 an4 cd4 ct4),sl4⟩) (c4:W.codeIn K cd4 "either_of"=true) (k4:W.keepIn K (.ref f4)=true)
 (a5:W.nsIn K mainGlobals "rows_of"=some (some (.ref f5))) (l5:K.lookup f5=some ⟨oc5,od5,.func (W.fnOf "rows_of" "rows_of" (bL (top 11)) (bI (top 11)) (aN (top 11)) .none kV5 dc5 pm5 an5 cd5 ct5),sl5⟩) (c5:W.codeIn K cd5 "rows_of"=true) (k5:W.keepIn K (.ref f5)=true)
 (a6:W.nsIn K mainGlobals "pieces_of"=some (some (.ref f6))) (l6:K.lookup f6=some ⟨oc6,od6,.func (W.fnOf "pieces_of" "pieces_of" (bL (top 17)) (bI (top 17)) (aN (top 17)) .none kV6 dc6 pm6 an6 cd6 ct6),sl6⟩) (c6:W.codeIn K cd6 "pieces_of"=true) (k6:W.keepIn K (.ref f6)=true)
 (a7:W.nsIn K mainGlobals "piece_at"=some (some (.ref f7))) (l7:K.lookup f7=some ⟨oc7,od7,.func (W.fnOf "piece_at" "piece_at" (bL (top 18)) (bI (top 18)) (aN (top 18)) .none kV7 dc7 pm7 an7 cd7 ct7),sl7⟩) (c7:W.codeIn K cd7 "piece_at"=true) (k7:W.keepIn K (.ref f7)=true)
 (a8:W.nsIn K mainGlobals "no_piece"=some (some (.ref f8))) (l8:K.lookup f8=some ⟨oc8,od8,.func (W.fnOf "no_piece" "no_piece" (bL (top 19)) (bI (top 19)) (aN (top 19)) .none kV8 dc8 pm8 an8 cd8 ct8),sl8⟩) (c8:W.codeIn K cd8 "no_piece"=true) (k8:W.keepIn K (.ref f8)=true)
 (a9:W.nsIn K mainGlobals "run_end"=some (some (.ref f9))) (l9:K.lookup f9=some ⟨oc9,od9,.func (W.fnOf "run_end" "run_end" (bL (top 20)) (bI (top 20)) (aN (top 20)) .none kV9 dc9 pm9 an9 cd9 ct9),sl9⟩) (c9:W.codeIn K cd9 "run_end"=true) (k9:W.keepIn K (.ref f9)=true)
 (a10:W.nsIn K mainGlobals "word_at"=some (some (.ref KY))) (l10:K.lookup KY=some ⟨amA,akp,.func (W.fnOf "word_at" "word_at" (bL (top 21)) (bI (top 21)) (aN (top 21)) .none amB amC amD akq aaW amE),alm⟩) (qe:W.codeIn K aaW "word_at"=true) (k10:W.keepIn K (.ref KY)=true)
 (a11:W.nsIn K mainGlobals "name_at"=some (some (.ref f11))) (Ls:K.lookup f11=some ⟨amF,akr,.func (W.fnOf "name_at" "name_at" (bL (top 22)) (bI (top 22)) (aN (top 22)) .none amG amH amI aks aaX amJ),aln⟩) (qg:W.codeIn K aaX "name_at"=true) (k11:W.keepIn K (.ref f11)=true)
 (a12:W.nsIn K mainGlobals "number_at"=some (some (.ref KZ))) (Lw:K.lookup KZ=some ⟨amK,akt,.func (W.fnOf "number_at" "number_at" (bL (top 23)) (bI (top 23)) (aN (top 23)) .none amL amM amN aku aaY amO),alo⟩) (c12:W.codeIn K aaY "number_at"=true) (k12:W.keepIn K (.ref KZ)=true)
 (a13:W.nsIn K mainGlobals "read_kind"=some (some (.ref K1))) (lK:K.lookup K1=some ⟨amP,akv,.func (W.fnOf "read_kind" "read_kind" (bL (top 27)) (bI (top 27)) (aN (top 27)) .none amQ amR amS akx aaZ amT),alp⟩) (Lx:W.codeIn K aaZ "read_kind"=true) (k13:W.keepIn K (.ref K1)=true)
 (a14:W.nsIn K mainGlobals "told_kind"=some (some (.ref K3))) (Ly:K.lookup K3=some ⟨amU,aky,.func (W.fnOf "told_kind" "told_kind" (bL (top 28)) (bI (top 28)) (aN (top 28)) .none amV amW amX akz aa0 amY),alq⟩) (Lz:W.codeIn K aa0 "told_kind"=true) (k14:W.keepIn K (.ref K3)=true)
 (a15:W.nsIn K mainGlobals "told_form"=some (some (.ref K4))) (LC:K.lookup K4=some ⟨amZ,akA,.func (W.fnOf "told_form" "told_form" (bL (top 29)) (bI (top 29)) (aN (top 29)) .none am9 am_ ana akB aa1 anb),alr⟩) (LK:W.codeIn K aa1 "told_form"=true) (LQ:W.keepIn K (.ref K4)=true)
 (a16:W.nsIn K mainGlobals "told_field"=some (some (.ref K5))) (LR:K.lookup K5=some ⟨anc,akC,.func (W.fnOf "told_field" "told_field" (bL (top 30)) (bI (top 30)) (aN (top 30)) .none ane anf ang akD aa2 anh),als⟩) (c16:W.codeIn K aa2 "told_field"=true) (L_:W.keepIn K (.ref K5)=true)
 (a17:W.nsIn K mainGlobals "made_kind"=some (some (.ref K6))) (Ma:K.lookup K6=some ⟨ani,akE,.func (W.fnOf "made_kind" "made_kind" (bL (top 31)) (bI (top 31)) (aN (top 31)) .none anj ank anl akF aa3 anm),alu⟩) (Mf:W.codeIn K aa3 "made_kind"=true) (Mg:W.keepIn K (.ref K6)=true)
 (a18:W.nsIn K mainGlobals "made_pairs"=some (some (.ref K7))) (Mh:K.lookup K7=some ⟨ano,akG,.func (W.fnOf "made_pairs" "made_pairs" (bL (top 32)) (bI (top 32)) (aN (top 32)) .none anp anq anr akH aa4 ant),alv⟩) (Mi:W.codeIn K aa4 "made_pairs"=true) (Mj:W.keepIn K (.ref K7)=true)
 (a19:W.nsIn K mainGlobals "_law_next"=some (some (.ref K8))) (Ml:K.lookup K8=some ⟨anu,akI,.func (W.fnOf "_law_next" "_law_next" (bL (top 34)) (bI (top 34)) (aN (top 34)) .none anv anw anx akJ aa5 anz),alw⟩) (Mp:W.codeIn K aa5 "_law_next"=true) (Mq:W.keepIn K (.ref K8)=true)
 (a20:W.nsIn K mainGlobals "_law_names"=some (some (.ref K9))) (Mr:K.lookup K9=some ⟨anA,akK,.func (W.fnOf "_law_names" "_law_names" (bL (top 35)) (bI (top 35)) (aN (top 35)) .none anB anC anD akL aa6 anE),alx⟩) (Ms:W.codeIn K aa6 "_law_names"=true) (Mt:W.keepIn K (.ref K9)=true)
 (a21:W.nsIn K mainGlobals "_law_plain"=some (some (.ref K_))) (Mu:K.lookup K_=some ⟨anF,akM,.func (W.fnOf "_law_plain" "_law_plain" (bL (top 36)) (bI (top 36)) (aN (top 36)) .none anG anH anI akN aa7 anJ),aly⟩) (c21:W.codeIn K aa7 "_law_plain"=true) (Mw:W.keepIn K (.ref K_)=true)
 (a22:W.nsIn K mainGlobals "_law_fields"=some (some (.ref La))) (Mz:K.lookup La=some ⟨anK,akO,.func (W.fnOf "_law_fields" "_law_fields" (bL (top 37)) (bI (top 37)) (aN (top 37)) .none anL anM anN akP aa8 anO),alz⟩) (MF:W.codeIn K aa8 "_law_fields"=true) (MJ:W.keepIn K (.ref La)=true)
 (a23:W.nsIn K mainGlobals "_law_rows_kind"=some (some (.ref Lb))) (MK:K.lookup Lb=some ⟨anP,akQ,.func (W.fnOf "_law_rows_kind" "_law_rows_kind" (bL (top 38)) (bI (top 38)) (aN (top 38)) .none anQ anR anS akR aa9 anT),alA⟩) (MN:W.codeIn K aa9 "_law_rows_kind"=true) (M4:W.keepIn K (.ref Lb)=true)
 (a24:W.nsIn K mainGlobals "_law_kind"=some (some (.ref Ld))) (M5:K.lookup Ld=some ⟨anU,akS,.func (W.fnOf "_law_kind" "_law_kind" (bL (top 39)) (bI (top 39)) (aN (top 39)) .none anV anW anY akT aa_ anZ),alB⟩) (M6:W.codeIn K aa_ "_law_kind"=true) (M7:W.keepIn K (.ref Ld)=true)
 (a25:W.nsIn K mainGlobals "_law_joined"=some (some (.ref Le))) (M8:K.lookup Le=some ⟨an_,akU,.func (W.fnOf "_law_joined" "_law_joined" (bL (top 40)) (bI (top 40)) (aN (top 40)) .none aoa aob aoc akV abb aod),alC⟩) (M9:W.codeIn K abb "_law_joined"=true) (M_:W.keepIn K (.ref Le)=true)
 (a26:W.nsIn K mainGlobals "_law_loose"=some (some (.ref Lf))) (Nb:K.lookup Lf=some ⟨aoe,akW,.func (W.fnOf "_law_loose" "_law_loose" (bL (top 41)) (bI (top 41)) (aN (top 41)) .none aof aog aoh akX abd aoi),alD⟩) (Nf:W.codeIn K abd "_law_loose"=true) (Ng:W.keepIn K (.ref Lf)=true)
 (a27:W.nsIn K mainGlobals "_law_field_pieces"=some (some (.ref Lg))) (Nh:K.lookup Lg=some ⟨aoj,akY,.func (W.fnOf "_law_field_pieces" "_law_field_pieces" (bL (top 42)) (bI (top 42)) (aN (top 42)) .none aok aol aom akZ abe aon),alE⟩) (Ni:W.codeIn K abe "_law_field_pieces"=true) (Nj:W.keepIn K (.ref Lg)=true)
 (a28:W.nsIn K mainGlobals "_law_kind_pieces"=some (some (.ref Lh))) (Nk:K.lookup Lh=some ⟨aoo,ak0,.func (W.fnOf "_law_kind_pieces" "_law_kind_pieces" (bL (top 43)) (bI (top 43)) (aN (top 43)) .none aop aoq aor ak1 abf aos),alF⟩) (Np:W.codeIn K abf "_law_kind_pieces"=true) (Nq:W.keepIn K (.ref Lh)=true)
 (a29:W.nsIn K mainGlobals "_law_listed"=some (some (.ref Li))) (Nr:K.lookup Li=some ⟨aot,ak2,.func (W.fnOf "_law_listed" "_law_listed" (bL (top 44)) (bI (top 44)) (aN (top 44)) .none aou aov aow ak3 abg aox),alG⟩) (Nt:W.codeIn K abg "_law_listed"=true) (Nu:W.keepIn K (.ref Li)=true)
 (a30:W.nsIn K mainGlobals "_law_rough"=some (some (.ref Lj))) (Nv:K.lookup Lj=some ⟨aoy,ak4,.func (W.fnOf "_law_rough" "_law_rough" (bL (top 45)) (bI (top 45)) (aN (top 45)) .none aoz aoA aoB ak5 abh aoC),alH⟩) (Nx:W.codeIn K abh "_law_rough"=true) (Ny:W.keepIn K (.ref Lj)=true)
 (a31:W.nsIn K mainGlobals "_law_round"=some (some (.ref Lk))) (Nz:K.lookup Lk=some ⟨aoD,ak6,.func (W.fnOf "_law_round" "_law_round" (bL (top 46)) (bI (top 46)) (aN (top 46)) .none aoE aoF aoG ak7 abj aoH),alI⟩) (NK:W.codeIn K abj "_law_round"=true) (NQ:W.keepIn K (.ref Lk)=true)
 (a32:W.nsIn K mainGlobals "_law_told"=some (some (.ref f32))) (NZ:K.lookup f32=some ⟨aoI,ak8,.func (W.fnOf "_law_told" "_law_told" (bL (top 47)) (bI (top 47)) (aN (top 47)) .none aoJ aoK aoL ak9 abk aoM),alJ⟩) (N5:W.codeIn K abk "_law_told"=true) (N6:W.keepIn K (.ref f32)=true)
 (a33:W.nsIn K mainGlobals "_law_one"=some (some (.ref Ln))) (N7:K.lookup Ln=some ⟨aoN,ak_,.func (W.fnOf "_law_one" "_law_one" (bL (top 48)) (bI (top 48)) (aN (top 48)) .none aoO aoP aoQ ala abl aoR),alK⟩) (N8:W.codeIn K abl "_law_one"=true) (N_:W.keepIn K (.ref Ln)=true)
 (a34:W.nsIn K mainGlobals "law"=some (some (.ref Lp))) (Oa:K.lookup Lp=some ⟨aoS,alb,.func (W.fnOf "law" "law" (bL (top 49)) (bI (top 49)) (aN (top 49)) .none abm abn abo aaM Lr abp),alL⟩) (Ob:W.codeIn K Lr "law"=true) (Oc:W.keepIn K (.ref Lp)=true)
 (Od:W.nsIn K mainGlobals "len"=some none)
 (Oe:W.nsIn K mainGlobals "isinstance"=some none)
 (Og:W.nsIn K mainGlobals "sorted"=some none)
 (Oh:W.nsIn K mainGlobals "range"=some none)
 (Oi:W.nsIn K mainGlobals "int"=some none)
 (Oj:W.nsIn K mainGlobals "bool"=some none)
 (Ol:W.nsIn K mainGlobals "str"=some none)
 (Om:W.nsIn K mainGlobals "list"=some none)
 (Oo:W.nsIn K mainGlobals "tuple"=some none)
 (Oq:W.nsIn K mainGlobals "min"=some none)
 (Ot:W.nsIn K mainGlobals "all"=some none)
 (Ou:W.nsIn K mainGlobals "dict"=some none)
 (Ov:W.nsIn K mainGlobals "enumerate"=some none)
 (Ow:W.nsIn K mainGlobals "zip"=some none)
 (Ox:W.nsIn K mainGlobals "reversed"=some none)
 {gQ pB:Addr} {aoT:Value} {aoU:Option Addr} {aoV:Array (Option Value)} {abq:ClassData}
 (Oz:W.nsIn K mainGlobals "Reader"=some (some (.ref gQ))) (abr:K.lookup gQ=some ⟨aoT,aoU,.cls abq,aoV⟩) (abt:abq.ns=pB)
 {dG abu:Addr} {aoW:Value} {aoX:Option Addr} {aoY:Array (Option Value)} {abv:ClassData}
 (OD:W.nsIn K mainGlobals "NoText"=some (some (.ref dG))) (abw:K.lookup dG=some ⟨aoW,aoX,.cls abv,aoY⟩) (abx:abv.ns=abu)
 {ug:Addr}
 (OJ:W.nsIn K mainGlobals "ViewError"=some (some (.ref ug)))
 {gq:Addr}
 (Et:W.nsIn K mainGlobals "NoKind"=some (some (.ref gq)))
 {tM tL tF tS:Tok} {cF:Addr} {ocF:Value} {odF:Option Addr} {slF:Array (Option Value)} {iF:Array Value} {nF:Nat}
 (O1:W.nsIn K mainGlobals "MARKS"=some (some (.str "{}[]()<>:," tM))) (O2:W.nsIn K mainGlobals "MOST_LETTERS"=some (some (.int 12 tL))) (O3:W.nsIn K mainGlobals "MOST_FIGURES"=some (some (.int 80 tF))) (O4:W.nsIn K mainGlobals "MOST_SIGNS"=some (some (.int 40 tS)))
 (O5:W.nsIn K mainGlobals "FORMS"=some (some (.ref cF))) (O6:K.lookup cF=some ⟨ocF,odF,.seq iF nF,slF⟩) (O7:ocF=.type "tuple") (O8:iF.size<=sizeLine) (O9:iF.toList.map Ac=mH.map some)
 {vY:Addr} {ao1 ao2:Option Addr} {ao3:Array (Option Value)} {ao4 ao5 ao6 ao7 abz ao8:Value}
 (am0:W.nsIn K pB "__init__"=some (some (.ref vY))) (O_:K.lookup vY=some ⟨ao4,ao1,.func (W.fnOf "__init__" "Reader.__init__" (bL (aR 24 0)) (bI (aR 24 0)) (aN (aR 24 0)) .none ao5 ao6 ao7 ao2 abz ao8),ao3⟩) (Pa:W.codeIn K abz "Reader.__init__"=true) (Pg:W.keepIn K (.ref vY)=true)
 {vZ:Addr} {ao9 ao_:Option Addr} {apa:Array (Option Value)} {apb apc apd ape abB apf:Value}
 (am1:W.nsIn K pB "is_at"=some (some (.ref vZ))) (Ph:K.lookup vZ=some ⟨apb,ao9,.func (W.fnOf "is_at" "Reader.is_at" (bL (aR 24 1)) (bI (aR 24 1)) (aN (aR 24 1)) .none apc apd ape ao_ abB apf),apa⟩) (Pj:W.codeIn K abB "Reader.is_at"=true) (Eu:W.keepIn K (.ref vZ)=true)
 {v5:Addr} {apg aph:Option Addr} {apj:Array (Option Value)} {apk apl apm apn abD apo:Value}
 (am2:W.nsIn K pB "taken"=some (some (.ref v5))) (Pk:K.lookup v5=some ⟨apk,apg,.func (W.fnOf "taken" "Reader.taken" (bL (aR 24 3)) (bI (aR 24 3)) (aN (aR 24 3)) .none apl apm apn aph abD apo),apj⟩) (Pn:W.codeIn K abD "Reader.taken"=true) (Ew:W.keepIn K (.ref v5)=true)
 {v7:Addr} {apq apr:Option Addr} {aps:Array (Option Value)} {apt apu apv apw abF apx:Value}
 (am3:W.nsIn K pB "taken_among"=some (some (.ref v7))) (Pq:K.lookup v7=some ⟨apt,apq,.func (W.fnOf "taken_among" "Reader.taken_among" (bL (aR 24 4)) (bI (aR 24 4)) (aN (aR 24 4)) .none apu apv apw apr abF apx),aps⟩) (Pr:W.codeIn K abF "Reader.taken_among"=true) (Ey:W.keepIn K (.ref v7)=true)
 {v8:Addr} {apy apz:Option Addr} {apA:Array (Option Value)} {apB apC apD apE abH apF:Value}
 (am4:W.nsIn K pB "passed"=some (some (.ref v8))) (Pu:K.lookup v8=some ⟨apB,apy,.func (W.fnOf "passed" "Reader.passed" (bL (aR 24 5)) (bI (aR 24 5)) (aN (aR 24 5)) .none apC apD apE apz abH apF),apA⟩) (Px:W.codeIn K abH "Reader.passed"=true) (Ez:W.keepIn K (.ref v8)=true)
 {v9:Addr} {apG apH:Option Addr} {apI:Array (Option Value)} {apJ apK apL apM abJ apO:Value}
 (am5:W.nsIn K pB "pass_mark"=some (some (.ref v9))) (Py:K.lookup v9=some ⟨apJ,apG,.func (W.fnOf "pass_mark" "Reader.pass_mark" (bL (aR 24 6)) (bI (aR 24 6)) (aN (aR 24 6)) .none apK apL apM apH abJ apO),apI⟩) (Pz:W.codeIn K abJ "Reader.pass_mark"=true) (EY:W.keepIn K (.ref v9)=true)
 {wg:Addr} {apP apQ:Option Addr} {apR:Array (Option Value)} {apS apT apU apV abL apW:Value}
 (am6:W.nsIn K pB "ask_end"=some (some (.ref wg))) (PB:K.lookup wg=some ⟨apS,apP,.func (W.fnOf "ask_end" "Reader.ask_end" (bL (aR 24 7)) (bI (aR 24 7)) (aN (aR 24 7)) .none apT apU apV apQ abL apW),apR⟩) (PK:W.codeIn K abL "Reader.ask_end"=true) (E_:W.keepIn K (.ref wg)=true)
 {wj:Addr} {apY apZ:Option Addr} {ap0:Array (Option Value)} {ap1 ap2 ap3 ap4 abN ap5:Value}
 (am7:W.nsIn K pB "listed"=some (some (.ref wj))) (PL:K.lookup wj=some ⟨ap1,apY,.func (W.fnOf "listed" "Reader.listed" (bL (aR 24 8)) (bI (aR 24 8)) (aN (aR 24 8)) .none ap2 ap3 ap4 apZ abN ap5),ap0⟩) (PN:W.codeIn K abN "Reader.listed"=true) (Fb:W.keepIn K (.ref wj)=true)
 {uh:Addr} {ap6 ap7:Option Addr} {ap8:Array (Option Value)} {ap9 ap_ aqa aqb abP aqc:Value}
 (am8:W.nsIn K abu "__init__"=some (some (.ref uh))) (PX:K.lookup uh=some ⟨ap9,ap6,.func (W.fnOf "__init__" "NoText.__init__" (bL (aR 4 0)) (bI (aR 4 0)) (aN (aR 4 0)) .none ap_ aqa aqb ap7 abP aqc),ap8⟩) (P0:W.codeIn K abP "NoText.__init__"=true) (P_:W.keepIn K (.ref uh)=true)
 (Qa:W.isFn K (.ref vY)=true)
 (at0:W.findIn K (.ref gQ) "__init__"=some (some (.ref vY)))
 (Qc:W.isFn K (.ref vZ)=true)
 (at1:W.findIn K (.ref gQ) "is_at"=some (some (.ref vZ)))
 (Qe:W.isFn K (.ref v5)=true)
 (at2:W.findIn K (.ref gQ) "taken"=some (some (.ref v5)))
 (Qf:W.isFn K (.ref v7)=true)
 (Qg:W.findIn K (.ref gQ) "taken_among"=some (some (.ref v7)))
 (Qh:W.isFn K (.ref v8)=true)
 (Qi:W.findIn K (.ref gQ) "passed"=some (some (.ref v8)))
 (Qj:W.isFn K (.ref v9)=true)
 (Qk:W.findIn K (.ref gQ) "pass_mark"=some (some (.ref v9)))
 (Ql:W.isFn K (.ref wg)=true)
 (Qo:W.findIn K (.ref gQ) "ask_end"=some (some (.ref wg)))
 (Qq:W.isFn K (.ref wj)=true)
 (Qs:W.findIn K (.ref gQ) "listed"=some (some (.ref wj)))
 (Qt:W.isFn K (.ref uh)=true)
 (at8:W.findIn K (.ref dG) "__init__"=some (some (.ref uh)))
 (Qu:W.plainGet K gQ Str.empty=true)
 (Qv:W.hasDictIn K gQ=true)
 (Qw:W.plainOver K gQ=true)
 (Qx:W.findIn K (.ref gQ) "__setattr__"=some (some (.builtin "object.__setattr__")))
 (Qy:W.findIn K (.ref gQ) "pieces"=some none)
 (Qz:W.findIn K (.ref gQ) "reached"=some none)
 (QB:W.makesIn K gQ=true)
 (QC:W.keepIn K (.ref gQ)=true)
 (QD:KQ K dG uh BZ "ValueError.__new__"=true)
 (QF:W.keepIn K (.ref dG)=true)
 (QG:W.findIn K (.ref dG) "__setattr__"=some (some (.builtin "object.__setattr__")))
 (QH:W.findIn K (.ref dG) "place"=some none)
 (Fe:W.mroIn K dG (.type "object")=some true)
 (QJ:((W.clsIn K dG).any λcd=>Bo cd.mro && cd.hasDict)=true)
 (QK:W.findIn K (.ref dG) "__getattribute__"=some (some (.builtin "BaseException.__getattribute__")))
 (QL:W.findIn K (.ref dG) "__getattr__"=some none)
 (QM:W.findIn K (.ref dG) "__class__"=some (some (.builtin "object.__class__")))
 (QS:W.mroIn K dG (.type "BaseException")=some true)
 (cp_is:(W.clsIn K dG).isSome=true)
 (QT:W.typeIn K (.ref ug)=some (.type "type"))
 (QV:(W.clsIn K ug).isSome=true)
 (QW:W.subIn K (.ref ug) (.type "BaseException")=some true)
 (QZ:W.subIn K (.ref dG) (.ref ug)=some true)
 (Q5:W.kitOne K (.ref dG) (.ref dG)=some true)
 (Q6:W.kitOne K (.ref dG) (.ref gq)=some false)
 (Q7:W.subIn K (.ref gq) (.ref ug)=some true)
 (Q8:W.kitOne K (.ref gq) (.ref dG)=some false)
 (Q9:W.kitOne K (.ref gq) (.ref gq)=some true)
 (Q_:W.findIn K (.ref gq) "__getattribute__"=some (some (.builtin "BaseException.__getattribute__")))
 (Ra:W.findIn K (.ref gq) "__getattr__"=some none)
 (Rb:W.findIn K (.ref gq) "__class__"=some (some (.builtin "object.__class__")))
 (Rc:W.mroIn K gq (.type "object")=some true)
 (Rg:W.mroIn K gq (.type "BaseException")=some true)
 (Rh:(W.clsIn K gq).isSome=true)
 (Ri:W.excIn K gq BZ "ValueError.__new__"=true)
 {cS PS:Addr} {aqd:Value} {aqe:Option Addr} {abS:Array Value} {aqf:Array (Option Value)} (Rj:Lq=.ref cS) (lcS:K.lookup cS=some ⟨aqd,aqe,.fields abS,aqf⟩) (hPS:abS[11]? =some (.ref PS)) (Rk:W.codeHdIn K cS PS=true)
 :∃fd:FuncData,(∀(s:Shared) (v:Value),BindsTo s fd ⟨[v],[]⟩ [("_law_script",v)])/\∀base:Heap,K.In base->base.Ns mainGlobals mg->BM mg base->aB l.prog w K mg base aO 102 fa fd ["_law_script"] (KC K PS):=by
 have T:Tb mg:=⟨W.mg_none_of X G Od,W.mg_none_of X G Oe,W.mg_none_of X G Og,W.mg_none_of X G Oh,W.mg_none_of X G Oi,W.mg_none_of X G Oj,W.mg_none_of X G Ol,W.mg_none_of X G Om,W.mg_none_of X G Oo,W.mg_none_of X G Oq,W.mg_none_of X G Ot,W.mg_none_of X G Ou,W.mg_none_of X G Ov,W.mg_none_of X G Ow,W.mg_none_of X G Ox⟩
 have mQ:=cP (st:=top 6) (ps:=["kind"]) X G a0 l0 c0 k0 λ_ _ _ _ _ _=>bind1 λ_=>rfl
 have mR:=cP (st:=top 7) (ps:=["fields","name"]) X G a1 l1 c1 k1 λ_ _ _ _ _ _=>jF λ_ _=>rfl
 have iw:=cP (st:=top 8) (ps:=["pairs"]) X G a2 l2 c2 k2 λ_ _ _ _ _ _=>bind1 λ_=>rfl
 have lA:=cP (st:=top 9) (ps:=["pairs"]) X G a3 l3 c3 k3 λ_ _ _ _ _ _=>bind1 λ_=>rfl
 have lB:=cP (st:=top 10) (ps:=["pairs"]) X G a4 l4 c4 k4 λ_ _ _ _ _ _=>bind1 λ_=>rfl
 have lC:=cP (st:=top 11) (ps:=["key","by","pairs"]) X G a5 l5 c5 k5 λ_ _ _ _ _ _=>vX λ_ _ _=>rfl
 have qy:=cP (st:=top 17) (ps:=["text"]) X G a6 l6 c6 k6 λ_ _ _ _ _ _=>bind1 λ_=>rfl
 have qw:=cP (st:=top 18) (ps:=["text","place"]) X G a7 l7 c7 k7 λ_ _ _ _ _ _=>jF λ_ _=>rfl
 have gh:=cP (st:=top 19) (ps:=["text","place"]) X G a8 l8 c8 k8 λ_ _ _ _ _ _=>jF λ_ _=>rfl
 have j5:=cP (st:=top 20) (ps:=["text","place","least","most"]) X G a9 l9 c9 k9 λ_ _ _ _ _ _=>uf λ_ _ _ _=>rfl
 have qp:=cP (st:=top 21) (ps:=["text","place"]) X G a10 l10 qe k10 λ_ _ _ _ _ _=>jF λ_ _=>rfl
 have qt:=cP (st:=top 22) (ps:=["text","place"]) X G a11 Ls qg k11 λ_ _ _ _ _ _=>jF λ_ _=>rfl
 have qu:=cP (st:=top 23) (ps:=["text","place"]) X G a12 Lw c12 k12 λ_ _ _ _ _ _=>jF λ_ _=>rfl
 have qR:=cP (st:=top 27) (ps:=["text"]) X G a13 lK Lx k13 λ_ _ _ _ _ _=>bind1 λ_=>rfl
 have iM:=cP (st:=top 28) (ps:=["reader"]) X G a14 Ly Lz k14 λ_ _ _ _ _ _=>bind1 λ_=>rfl
 have j_:=cP (st:=top 29) (ps:=["reader"]) X G a15 LC LK LQ λ_ _ _ _ _ _=>bind1 λ_=>rfl
 have ji:=cP (st:=top 30) (ps:=["reader"]) X G a16 LR c16 L_ λ_ _ _ _ _ _=>bind1 λ_=>rfl
 have gH:=cP (st:=top 31) (ps:=["told"]) X G a17 Ma Mf Mg λ_ _ _ _ _ _=>bind1 λ_=>rfl
 have iy:=cP (st:=top 32) (ps:=["pairs"]) X G a18 Mh Mi Mj λ_ _ _ _ _ _=>bind1 λ_=>rfl
 have bA:=cP (st:=top 34) (ps:=["_law_script","_law_at"]) X G a19 Ml Mp Mq λ_ _ _ _ _ _=>jF λ_ _=>rfl
 have dN:=cP (st:=top 35) (ps:=["_law_script","_law_at","_law_many"]) X G a20 Mr Ms Mt λ_ _ _ _ _ _=>vX λ_ _ _=>rfl
 have fO:=cP (st:=top 36) (ps:=["_law_script","_law_at"]) X G a21 Mu c21 Mw λ_ _ _ _ _ _=>jF λ_ _=>rfl
 have jQ:=cP (st:=top 37) (ps:=["_law_script","_law_at","_law_many","_law_deep"]) X G a22 Mz MF MJ λ_ _ _ _ _ _=>uf λ_ _ _ _=>rfl
 have mW:=cP (st:=top 38) (ps:=["_law_script","_law_at","_law_many","_law_deep"]) X G a23 MK MN M4 λ_ _ _ _ _ _=>uf λ_ _ _ _=>rfl
 have dO:=cP (st:=top 39) (ps:=["_law_script","_law_at","_law_deep"]) X G a24 M5 M6 M7 λ_ _ _ _ _ _=>vX λ_ _ _=>rfl
 have qz:=cP (st:=top 40) (ps:=["_law_pieces"]) X G a25 M8 M9 M_ λ_ _ _ _ _ _=>bind1 λ_=>rfl
 have jR:=cP (st:=top 41) (ps:=["_law_script","_law_at","_law_pieces"]) X G a26 Nb Nf Ng λ_ _ _ _ _ _=>vX λ_ _ _=>rfl
 have iz:=cP (st:=top 42) (ps:=["_law_script","_law_at","_law_fields_here","_law_mixed"]) X G a27 Nh Ni Nj λ_ _ _ _ _ _=>uf λ_ _ _ _=>rfl
 have gJ:=cP (st:=top 43) (ps:=["_law_script","_law_at","_law_kind_here","_law_mixed"]) X G a28 Nk Np Nq λ_ _ _ _ _ _=>uf λ_ _ _ _=>rfl
 have cH:=cP (st:=top 44) (ps:=["_law_pairs"]) X G a29 Nr Nt Nu λ_ _ _ _ _ _=>bind1 λ_=>rfl
 have rm:=cP (st:=top 45) (ps:=["_law_script","_law_at"]) X G a30 Nv Nx Ny λ_ _ _ _ _ _=>jF λ_ _=>rfl
 have m7:=cP (st:=top 46) (ps:=["_law_script","_law_at","_law_pieces","_law_kind_here"]) X G a31 Nz NK NQ λ_ _ _ _ _ _=>uf λ_ _ _ _=>rfl
 have iR:=cP (st:=top 47) (ps:=["_law_text"]) X G a32 NZ N5 N6 λ_ _ _ _ _ _=>bind1 λ_=>rfl
 have rE:=cP (st:=top 48) (ps:=["_law_script","_law_at"]) X G a33 N7 N8 N_ λ_ _ _ _ _ _=>jF λ_ _=>rfl
 have Ep:=cP (st:=top 49) (ps:=["_law_script"]) X G a34 Oa Ob Oc λ_ _ _ _ _ _=>bind1 λ_=>rfl
 have vd:=pA (st:=(aR 24 0)) (ps:=["self","text"]) O_ Pa Pg λ_ _ _ _ _ _=>jF λ_ _=>rfl
 have gD:=pA (st:=(aR 24 1)) (ps:=["self","sort","thing"]) Ph Pj Eu λ_ _ _ _ _ _=>vX λ_ _ _=>rfl
 have iJ:=pA (st:=(aR 24 3)) (ps:=["self","sort"]) Pk Pn Ew λ_ _ _ _ _ _=>jF λ_ _=>rfl
 have nM:=pA (st:=(aR 24 4)) (ps:=["self","names"]) Pq Pr Ey λ_ _ _ _ _ _=>jF λ_ _=>rfl
 have gj:=pA (st:=(aR 24 5)) (ps:=["self","sort","thing"]) Pu Px Ez λ_ _ _ _ _ _=>vX λ_ _ _=>rfl
 have jM:=pA (st:=(aR 24 6)) (ps:=["self","mark"]) Py Pz EY λ_ _ _ _ _ _=>jF λ_ _=>rfl
 have vf:=pA (st:=(aR 24 7)) (ps:=["self"]) PB PK E_ λ_ _ _ _ _ _=>bind1 λ_=>rfl
 have j9:=pA (st:=(aR 24 8)) (ps:=["self","first","last","read_one"]) PL PN Fb λ_ _ _ _ _ _=>uf λ_ _ _ _=>rfl
 have jy:=pA (st:=(aR 4 0)) (ps:=["self","place"]) PX P0 P_ λ_ _ _ _ _ _=>jF λ_ _=>rfl
 have e:=hfa.symm.trans Ep.m
 cases e
 refine⟨W.fnOf "law" "law" (bL (top 49)) (bI (top 49)) (aN (top 49)) .none abm abn abo aaM Lr abp,λs v=>.of_eq rfl,λbase X1 _ xP=>?_⟩
 have aqg:=W.codeHd_of_K X1 Rk
 subst Rj
 have RD:jL K mg gQ vY vZ v5 v7 v8 v9 wg wj:=⟨⟨Qu,Qv,Qw,Qx⟩,Qy,Qz,⟨QB,at0,Qa,QC⟩,W.mg_of X G Oz,⟨at1,Qc,Eu⟩,⟨at2,Qe,Ew⟩,⟨Qg,Qf,Ey⟩,⟨Qi,Qh,Ez⟩,⟨Qk,Qj,EY⟩,⟨Qo,Ql,E_⟩,⟨Qs,Qq,Fb⟩⟩
 have XC:sG K mg base dG uh:=⟨aj1 X1 QD Qt,QF,W.mg_of X G OD,⟨QG,QH,Fe,QJ⟩,⟨QK,QL,QM,Fe,QS,cp_is⟩⟩
 have XV:ZS K mg ug dG gq:=⟨W.mg_of X G OJ,QT,QV,QW,QZ,Q7,Q5,Q6,Q8,Q9,W.mg_of X G Et,⟨Q_,Ra,Rb,Rc,Rg,Rh⟩⟩
 have XN:Cr K mg base gq:=⟨aj4 X1 (W.mg_of X G Et) Ri⟩
 have TG:Gb mg tM tL tF tS:=⟨W.mg_of X G O1,W.mg_of X G O2,W.mg_of X G O3,W.mg_of X G O4⟩
 have hF:∀H,aM K H cF mH:=λH=>.inr ⟨_,iF,nF,O6,O7,rfl,O8,aaL O9⟩
 have N:=xR (xT (P:=l.prog) (w:=w) (base:=base) T bA)
 have NP:=afl (P:=l.prog) (w:=w) (base:=base) T gh
 have RE:=afm (P:=l.prog) (w:=w) (base:=base) T j5
 have WA:=afo T TG qp gh NP
 have NA:=afq T TG qt gh NP j5 RE
 have NU:=afs T TG qu gh NP j5 RE
 have PA:=afv T TG qw qp WA qt NA qu NU
 have PO:=afA T qy qw PA
 have NT:=afG (P:=l.prog) (w:=w) T XC jy
 have RI:=afH T RD vd qy PO
 have IA:=afJ (P:=l.prog) (w:=w) (base:=base) T RD gD
 have TA:=afK T RD XC iJ jy NT
 have PD:=afL T RD gj gD IA
 have PM:=afM T RD XC jM gj PD jy NT
 have AE:=afN T RD XC vf gD IA jy NT
 have AM:=agg T RD XC nM iJ TA jy NT
 have TK:=(W2 T RD hF (W.mg_of X G O5) ji j_ iM j9 nM AM iJ TA gD IA gj PD jM PM 8).2
 have SF:=agz (P:=l.prog) (w:=w) T iw rfl aqg xP XN
 have RO:=agF T lA iw SF
 have EO:=agG T lB iw SF XN
 have IP:=agB (P:=l.prog) (w:=w) (base:=base) T mQ
 have KT:=agC (P:=l.prog) (w:=w) (base:=base) T mR
 have RW:=agH T lC iw SF mQ IP mR KT XN
 have MA:=Ja T gH iy lA (Ik RO) lC (Ik RW) lB (Ik EO) 7
 have RK:=ahc 8 7 T RD qR iM TK gH MA vf AE vd RI
 have NM:=X7 T dN bA N
 have KD:=kind_all (P:=l.prog) (w:=w) (base:=base) T dO bA fO dN jQ mW
 have JO:=af2 (P:=l.prog) (w:=w) (base:=base) T qz
 have LO:=ah1 T jR bA N
 have KP:=Jy (P:=l.prog) (w:=w) (base:=base) T gJ iz bA 4
 have LS:=ah_ (P:=l.prog) (w:=w) (base:=base) T cH
 have RG:=aiD T rm dN NM bA N cH LS
 have RN:=aiU T m7 dN NM bA N cH LS
 have TO:=aiY 8 7 T XC XV iR qR RK
 have ON:=ai7 T rE rm RG dO (KD 1) gJ KP bA N m7 RN iR TO jR LO qz JO
 exact ajU T Ep rE ON
section
open PySem
noncomputable def cu (x q:Str) (s:Stmt) (m:Value) (c:Nat):Obj:=.mk (.type "function") none (.func (.mk x q (bL s) (.stmts (bI s)) (aN s) 3 [] .none .none .none m none (.ref c) .none 0)) #[]
noncomputable def cB (x q:Str) (a l n k r f b e:Nat):Obj:=.mk (.type "code") none (.fields #[.str x a,.str q (a+1),.str (.ofString "/claim/cut.py") (a+2),.int l 0,.int n 0,.int 0 0,.int 0 0,.int k 0,.ref r,.bool true,.int f 0,.ref (r+1),.none,.ref (r+2),.ref (r+3),.ref (r+4),.int b 0,.int l 0,.str (.ofString "/claim/cut.py") e]) #[]
noncomputable def aX (P:Params) (x:Str) (a:Nat) (v:Value):DictEntry:=.mk (PyData.keyHash P x) (.str x a) v
noncomputable def ob2 (P:Params):Obj:=.mk .none none (.dict #[]) #[]
noncomputable def ob3 (P:Params):Obj:=.mk (.type "dict") none (.dict #[aX P "__name__" 165 (.str (.ofString "law_putback_k72_no_kind_in_text") 542),aX P "__doc__" 166 .none,aX P "__package__" 167 .none,aX P "__loader__" 168 (.builtin "__main__.__loader__#opaque"),aX P "__spec__" 169 .none,aX P "__annotations__" 170 (.ref 6),aX P "__builtins__" 171 (.ref 4),aX P "__file__" 173 (.str (.ofString "/claim/cut.py") 172),aX P "__cached__" 174 .none,aX P "_wall" 193 (.ref 21),aX P "ViewError" 213 (.ref 31),aX P "NoKind" 229 (.ref 44),aX P "NoText" 254 (.ref 63),aX P "is_plain" 263 (.ref 72),aX P "kind_at" 272 (.ref 79),aX P "sorted_fields" 282 (.ref 86),aX P "record_of" 289 (.ref 93),aX P "either_of" 297 (.ref 100),aX P "rows_of" 307 (.ref 107),aX P "MARKS" 311 (.str (.ofString "{}[]()<>:,") 310),aX P "MOST_LETTERS" 313 (.int 12 312),aX P "MOST_FIGURES" 315 (.int 80 314),aX P "MOST_SIGNS" 317 (.int 40 316),aX P "pieces_of" 326 (.ref 114),aX P "piece_at" 335 (.ref 121),aX P "no_piece" 343 (.ref 128),aX P "run_end" 354 (.ref 135),aX P "word_at" 363 (.ref 142),aX P "name_at" 372 (.ref 149),aX P "number_at" 382 (.ref 156),aX P "Reader" 483 (.ref 229),aX P "FORMS" 490 (.ref 234),aX P "read_kind" 499 (.ref 241),aX P "told_kind" 509 (.ref 248),aX P "told_form" 519 (.ref 255),aX P "told_field" 527 (.ref 262),aX P "made_kind" 535 (.ref 269),aX P "made_pairs" 541 (.ref 274),aX P "_law_next" 553 (.ref 281),aX P "_law_names" 571 (.ref 288),aX P "_law_plain" 579 (.ref 295),aX P "_law_fields" 585 (.ref 300),aX P "_law_rows_kind" 603 (.ref 307),aX P "_law_kind" 613 (.ref 314),aX P "_law_joined" 623 (.ref 321),aX P "_law_loose" 638 (.ref 328),aX P "_law_field_pieces" 654 (.ref 335),aX P "_law_kind_pieces" 665 (.ref 342),aX P "_law_listed" 675 (.ref 349),aX P "_law_rough" 694 (.ref 356),aX P "_law_round" 710 (.ref 363),aX P "_law_told" 719 (.ref 370),aX P "_law_one" 735 (.ref 377),aX P "law" 744 (.ref 384)] 54) #[]
noncomputable def aqj (P:Params):Obj:=cB "_wall" "_wall" 187 1 1 3 15 181 191 192
noncomputable def aqk (P:Params):Obj:=cu "_wall" "_wall" (top 0) (.str (.ofString "__main__") 164) 20
noncomputable def aql (P:Params):Obj:=.mk (.type "dict") none (.dict #[aX P "__module__" 203 (.str (.ofString "putback.errors") 194),aX P "__firstlineno__" 207 (.int 5 206),aX P "__static_attributes__" 208 (.ref 29),aX P "__weakref__" 210 (.ref 32),aX P "__doc__" 211 .none] 3) #[]
noncomputable def aqm (P:Params):Obj:=.mk (.type "type") none (.cls (.mk (.ofString "ViewError") [.type "ValueError"] [.ref 31,.type "ValueError",.type "Exception",.type "BaseException",.type "object"] 30 (.ofString "ViewError") true [] [.ref 44,.ref 63] false none false)) #[some (.ref 22),none,some (.str (.ofString "ViewError") 196),some (.str (.ofString "ViewError") 204),some (.builtin "ValueError.__new__"),some (.bool true)]
noncomputable def aqn (P:Params):Obj:=.mk (.type "getset_descriptor") none (.fields #[.str (.ofString "__weakref__") 209,.ref 31,.builtin "ExceptionGroup.__weakref__",.none]) #[]
noncomputable def aqo (P:Params):Obj:=.mk (.type "dict") none (.dict #[aX P "__module__" 221 (.str (.ofString "putback.errors") 194),aX P "__firstlineno__" 225 (.int 7 224),aX P "__static_attributes__" 226 (.ref 42),aX P "__doc__" 227 .none] 2) #[]
noncomputable def aqp (P:Params):Obj:=.mk (.type "type") none (.cls (.mk (.ofString "NoKind") [.ref 31] [.ref 44,.ref 31,.type "ValueError",.type "Exception",.type "BaseException",.type "object"] 43 (.ofString "NoKind") true [] [] false none false)) #[some (.ref 35),none,some (.str (.ofString "NoKind") 214),some (.str (.ofString "NoKind") 222),some (.builtin "ValueError.__new__"),some (.bool true)]
noncomputable def aqq (P:Params):Obj:=cB "__init__" "NoText.__init__" 242 11 2 3 54 181 247 248
noncomputable def aqr (P:Params):Obj:=cu "__init__" "NoText.__init__" (aR 4 0) (.str (.ofString "putback.errors") 194) 59
noncomputable def aqs (P:Params):Obj:=.mk (.type "dict") none (.dict #[aX P "__module__" 237 (.str (.ofString "putback.errors") 194),aX P "__firstlineno__" 241 (.int 9 240),aX P "__init__" 249 (.ref 60),aX P "__static_attributes__" 251 (.ref 61),aX P "__doc__" 252 .none] 2) #[]
noncomputable def aqt (P:Params):Obj:=.mk (.type "type") none (.cls (.mk (.ofString "NoText") [.ref 31] [.ref 63,.ref 31,.type "ValueError",.type "Exception",.type "BaseException",.type "object"] 62 (.ofString "NoText") true [] [] false none false)) #[some (.ref 47),none,some (.str (.ofString "NoText") 230),some (.str (.ofString "NoText") 238),some (.builtin "ValueError.__new__"),some (.bool true)]
noncomputable def aqu (P:Params):Obj:=cB "is_plain" "is_plain" 257 14 1 3 66 181 261 262
noncomputable def aqv (P:Params):Obj:=cu "is_plain" "is_plain" (top 6) (.str (.ofString "putback.kinds") 255) 71
noncomputable def aqw (P:Params):Obj:=cB "kind_at" "kind_at" 264 16 2 3 73 181 270 271
noncomputable def aqx (P:Params):Obj:=cu "kind_at" "kind_at" (top 7) (.str (.ofString "putback.kinds") 255) 78
noncomputable def aqy (P:Params):Obj:=cB "sorted_fields" "sorted_fields" 273 21 1 3 80 181 280 281
noncomputable def aqz (P:Params):Obj:=cu "sorted_fields" "sorted_fields" (top 8) (.str (.ofString "putback.kinds") 255) 85
noncomputable def aqA (P:Params):Obj:=cB "record_of" "record_of" 283 28 1 3 87 181 287 288
noncomputable def aqB (P:Params):Obj:=cu "record_of" "record_of" (top 9) (.str (.ofString "putback.kinds") 255) 92
noncomputable def aqC (P:Params):Obj:=cB "either_of" "either_of" 290 30 1 3 94 181 295 296
noncomputable def aqD (P:Params):Obj:=cu "either_of" "either_of" (top 10) (.str (.ofString "putback.kinds") 255) 99
noncomputable def aqE (P:Params):Obj:=cB "rows_of" "rows_of" 298 35 3 3 101 181 305 306
noncomputable def aqF (P:Params):Obj:=cu "rows_of" "rows_of" (top 11) (.str (.ofString "putback.kinds") 255) 106
noncomputable def aqG (P:Params):Obj:=cB "pieces_of" "pieces_of" 318 49 1 3 108 181 324 325
noncomputable def aqH (P:Params):Obj:=cu "pieces_of" "pieces_of" (top 17) (.str (.ofString "putback.signs") 308) 113
noncomputable def aqI (P:Params):Obj:=cB "piece_at" "piece_at" 327 60 2 3 115 181 333 334
noncomputable def aqJ (P:Params):Obj:=cu "piece_at" "piece_at" (top 18) (.str (.ofString "putback.signs") 308) 120
noncomputable def aqK (P:Params):Obj:=cB "no_piece" "no_piece" 336 69 2 3 122 181 341 342
noncomputable def aqL (P:Params):Obj:=cu "no_piece" "no_piece" (top 19) (.str (.ofString "putback.signs") 308) 127
noncomputable def aqM (P:Params):Obj:=cB "run_end" "run_end" 344 71 4 3 129 181 352 353
noncomputable def aqN (P:Params):Obj:=cu "run_end" "run_end" (top 20) (.str (.ofString "putback.signs") 308) 134
noncomputable def aqO (P:Params):Obj:=cB "word_at" "word_at" 355 76 2 3 136 181 361 362
noncomputable def aqP (P:Params):Obj:=cu "word_at" "word_at" (top 21) (.str (.ofString "putback.signs") 308) 141
noncomputable def aqQ (P:Params):Obj:=cB "name_at" "name_at" 364 81 2 3 143 181 370 371
noncomputable def aqR (P:Params):Obj:=cu "name_at" "name_at" (top 22) (.str (.ofString "putback.signs") 308) 148
noncomputable def aqS (P:Params):Obj:=cB "number_at" "number_at" 373 86 2 3 150 181 380 381
noncomputable def aqT (P:Params):Obj:=cu "number_at" "number_at" (top 23) (.str (.ofString "putback.signs") 308) 155
noncomputable def aqU (P:Params):Obj:=cB "__init__" "Reader.__init__" 395 96 2 3 164 181 400 401
noncomputable def aqV (P:Params):Obj:=cu "__init__" "Reader.__init__" (aR 24 0) (.str (.ofString "putback.signs") 308) 169
noncomputable def aqW (P:Params):Obj:=cB "is_at" "Reader.is_at" 403 100 3 3 171 181 410 411
noncomputable def aqX (P:Params):Obj:=cu "is_at" "Reader.is_at" (aR 24 1) (.str (.ofString "putback.signs") 308) 176
noncomputable def aqY (P:Params):Obj:=cB "is_of" "Reader.is_of" 413 104 2 3 178 181 418 419
noncomputable def aqZ (P:Params):Obj:=cu "is_of" "Reader.is_of" (aR 24 2) (.str (.ofString "putback.signs") 308) 183
noncomputable def aq0 (P:Params):Obj:=cB "taken" "Reader.taken" 421 107 2 3 185 181 427 428
noncomputable def aq1 (P:Params):Obj:=cu "taken" "Reader.taken" (aR 24 3) (.str (.ofString "putback.signs") 308) 190
noncomputable def aq2 (P:Params):Obj:=cB "taken_among" "Reader.taken_among" 430 114 2 3 192 181 436 437
noncomputable def aq3 (P:Params):Obj:=cu "taken_among" "Reader.taken_among" (aR 24 4) (.str (.ofString "putback.signs") 308) 197
noncomputable def aq4 (P:Params):Obj:=cB "passed" "Reader.passed" 439 120 3 3 199 181 445 446
noncomputable def aq5 (P:Params):Obj:=cu "passed" "Reader.passed" (aR 24 5) (.str (.ofString "putback.signs") 308) 204
noncomputable def aq6 (P:Params):Obj:=cB "pass_mark" "Reader.pass_mark" 448 126 2 3 206 181 453 454
noncomputable def aq7 (P:Params):Obj:=cu "pass_mark" "Reader.pass_mark" (aR 24 6) (.str (.ofString "putback.signs") 308) 211
noncomputable def aq8 (P:Params):Obj:=cB "ask_end" "Reader.ask_end" 456 130 1 3 213 181 460 461
noncomputable def aq9 (P:Params):Obj:=cu "ask_end" "Reader.ask_end" (aR 24 7) (.str (.ofString "putback.signs") 308) 218
noncomputable def aq_ (P:Params):Obj:=cB "listed" "Reader.listed" 463 134 4 3 220 181 471 472
noncomputable def ara (P:Params):Obj:=cu "listed" "Reader.listed" (aR 24 8) (.str (.ofString "putback.signs") 308) 225
noncomputable def arb (P:Params):Obj:=.mk (.type "dict") none (.dict #[aX P "__module__" 390 (.str (.ofString "putback.signs") 308),aX P "__firstlineno__" 394 (.int 94 393),aX P "__init__" 402 (.ref 170),aX P "is_at" 412 (.ref 177),aX P "is_of" 420 (.ref 184),aX P "taken" 429 (.ref 191),aX P "taken_among" 438 (.ref 198),aX P "passed" 447 (.ref 205),aX P "pass_mark" 455 (.ref 212),aX P "ask_end" 462 (.ref 219),aX P "listed" 473 (.ref 226),aX P "__static_attributes__" 476 (.ref 227),aX P "__dict__" 478 (.ref 230),aX P "__weakref__" 480 (.ref 231),aX P "__doc__" 481 .none] 4) #[]
noncomputable def ard (P:Params):Obj:=.mk (.type "type") none (.cls (.mk (.ofString "Reader") [.type "object"] [.ref 229,.type "object"] 228 (.ofString "Reader") true [] [] false none false)) #[none,none,some (.str (.ofString "Reader") 383),some (.str (.ofString "Reader") 391),some (.builtin "object.__new__"),some (.bool true)]
noncomputable def arf (P:Params):Obj:=.mk (.type "getset_descriptor") none (.fields #[.str (.ofString "__dict__") 477,.ref 229,.builtin "function.__dict__",.builtin "function.__dict__#set"]) #[]
noncomputable def arh (P:Params):Obj:=.mk (.type "getset_descriptor") none (.fields #[.str (.ofString "__weakref__") 479,.ref 229,.builtin "ExceptionGroup.__weakref__",.none]) #[]
noncomputable def ari (P:Params):Obj:=.mk (.type "tuple") none (.seq #[.str (.ofString "number") 486,.str (.ofString "word") 487,.str (.ofString "rows") 488,.str (.ofString "either") 489]) #[]
noncomputable def arj (P:Params):Obj:=cB "read_kind" "read_kind" 491 145 1 3 235 181 497 498
noncomputable def ark (P:Params):Obj:=cu "read_kind" "read_kind" (top 27) (.str (.ofString "putback.kindnotes") 484) 240
noncomputable def arl (P:Params):Obj:=cB "told_kind" "told_kind" 500 150 1 3 242 181 507 508
noncomputable def arn (P:Params):Obj:=cu "told_kind" "told_kind" (top 28) (.str (.ofString "putback.kindnotes") 484) 247
noncomputable def aro (P:Params):Obj:=cB "told_form" "told_form" 510 158 1 3 249 181 517 518
noncomputable def arp (P:Params):Obj:=cu "told_form" "told_form" (top 29) (.str (.ofString "putback.kindnotes") 484) 254
noncomputable def arq (P:Params):Obj:=cB "told_field" "told_field" 520 169 1 3 256 181 525 526
noncomputable def ars (P:Params):Obj:=cu "told_field" "told_field" (top 30) (.str (.ofString "putback.kindnotes") 484) 261
noncomputable def aru (P:Params):Obj:=cB "made_kind" "made_kind" 528 173 1 3 263 181 533 534
noncomputable def arv (P:Params):Obj:=cu "made_kind" "made_kind" (top 31) (.str (.ofString "putback.kindnotes") 484) 268
noncomputable def arw (P:Params):Obj:=.mk (.type "code") none (.fields #[.str (.ofString "made_pairs") 536,.str (.ofString "made_pairs") 537,.str (.ofString "/claim/cut.py") 538,.int 184 0,.int 1 0,.int 0 0,.int 0 0,.int 3 0,.ref 270,.bool true,.int 181 0,.ref 271,.none,.none,.none,.ref 272,.int 539 0,.int 184 0,.str (.ofString "/claim/cut.py") 540]) #[]
noncomputable def arx (P:Params):Obj:=cu "made_pairs" "made_pairs" (top 32) (.str (.ofString "putback.kindnotes") 484) 273
noncomputable def arz (P:Params):Obj:=cB "_law_next" "_law_next" 544 187 2 3 275 181 551 552
noncomputable def arA (P:Params):Obj:=cu "_law_next" "_law_next" (top 34) (.str (.ofString "law_putback_k72_no_kind_in_text") 542) 280
noncomputable def arB (P:Params):Obj:=cB "_law_names" "_law_names" 554 194 3 3 282 181 569 570
noncomputable def arC (P:Params):Obj:=cu "_law_names" "_law_names" (top 35) (.str (.ofString "law_putback_k72_no_kind_in_text") 542) 287
noncomputable def arD (P:Params):Obj:=cB "_law_plain" "_law_plain" 572 214 2 3 289 181 577 578
noncomputable def arE (P:Params):Obj:=cu "_law_plain" "_law_plain" (top 36) (.str (.ofString "law_putback_k72_no_kind_in_text") 542) 294
noncomputable def arF (P:Params):Obj:=.mk (.type "code") none (.fields #[.str (.ofString "_law_fields") 580,.str (.ofString "_law_fields") 581,.str (.ofString "/claim/cut.py") 582,.int 218 0,.int 4 0,.int 0 0,.int 0 0,.int 3 0,.ref 296,.bool true,.int 181 0,.ref 297,.none,.none,.none,.ref 298,.int 583 0,.int 218 0,.str (.ofString "/claim/cut.py") 584]) #[]
noncomputable def arG (P:Params):Obj:=cu "_law_fields" "_law_fields" (top 37) (.str (.ofString "law_putback_k72_no_kind_in_text") 542) 299
noncomputable def arH (P:Params):Obj:=cB "_law_rows_kind" "_law_rows_kind" 586 221 4 3 301 181 601 602
noncomputable def arI (P:Params):Obj:=cu "_law_rows_kind" "_law_rows_kind" (top 38) (.str (.ofString "law_putback_k72_no_kind_in_text") 542) 306
noncomputable def arJ (P:Params):Obj:=cB "_law_kind" "_law_kind" 604 236 3 3 308 181 611 612
noncomputable def arK (P:Params):Obj:=cu "_law_kind" "_law_kind" (top 39) (.str (.ofString "law_putback_k72_no_kind_in_text") 542) 313
noncomputable def arL (P:Params):Obj:=cB "_law_joined" "_law_joined" 614 247 1 3 315 181 621 622
noncomputable def arM (P:Params):Obj:=cu "_law_joined" "_law_joined" (top 40) (.str (.ofString "law_putback_k72_no_kind_in_text") 542) 320
noncomputable def arN (P:Params):Obj:=cB "_law_loose" "_law_loose" 624 257 3 3 322 181 636 637
noncomputable def arO (P:Params):Obj:=cu "_law_loose" "_law_loose" (top 41) (.str (.ofString "law_putback_k72_no_kind_in_text") 542) 327
noncomputable def arP (P:Params):Obj:=cB "_law_field_pieces" "_law_field_pieces" 639 269 4 3 329 181 652 653
noncomputable def arQ (P:Params):Obj:=cu "_law_field_pieces" "_law_field_pieces" (top 42) (.str (.ofString "law_putback_k72_no_kind_in_text") 542) 334
noncomputable def arR (P:Params):Obj:=cB "_law_kind_pieces" "_law_kind_pieces" 655 283 4 3 336 181 663 664
noncomputable def arS (P:Params):Obj:=cu "_law_kind_pieces" "_law_kind_pieces" (top 43) (.str (.ofString "law_putback_k72_no_kind_in_text") 542) 341
noncomputable def arT (P:Params):Obj:=cB "_law_listed" "_law_listed" 666 296 1 3 343 181 673 674
noncomputable def arU (P:Params):Obj:=cu "_law_listed" "_law_listed" (top 44) (.str (.ofString "law_putback_k72_no_kind_in_text") 542) 348
noncomputable def arV (P:Params):Obj:=cB "_law_rough" "_law_rough" 676 303 2 3 350 181 692 693
noncomputable def arW (P:Params):Obj:=cu "_law_rough" "_law_rough" (top 45) (.str (.ofString "law_putback_k72_no_kind_in_text") 542) 355
noncomputable def arX (P:Params):Obj:=cB "_law_round" "_law_round" 695 331 4 3 357 181 708 709
noncomputable def arY (P:Params):Obj:=cu "_law_round" "_law_round" (top 46) (.str (.ofString "law_putback_k72_no_kind_in_text") 542) 362
noncomputable def arZ (P:Params):Obj:=cB "_law_told" "_law_told" 711 348 1 3 364 181 717 718
noncomputable def ar0 (P:Params):Obj:=cu "_law_told" "_law_told" (top 47) (.str (.ofString "law_putback_k72_no_kind_in_text") 542) 369
noncomputable def ar3 (P:Params):Obj:=cB "_law_one" "_law_one" 720 360 2 3 371 181 733 734
noncomputable def ar4 (P:Params):Obj:=cu "_law_one" "_law_one" (top 48) (.str (.ofString "law_putback_k72_no_kind_in_text") 542) 376
noncomputable def ar5 (P:Params):Obj:=cB "law" "law" 736 376 1 3 378 181 742 743
noncomputable def ar6 (P:Params):Obj:=cu "law" "law" (top 49) (.str (.ofString "law_putback_k72_no_kind_in_text") 542) 383
end
noncomputable def KK:PySem.Params->W.Frag:=λP=>(nat_lit 2,ob2 P)::(nat_lit 3,ob3 P)::(nat_lit 20,aqj P)::(nat_lit 21,aqk P)::(nat_lit 30,aql P)::(nat_lit 31,aqm P)::(nat_lit 32,aqn P)::(nat_lit 43,aqo P)::(nat_lit 44,aqp P)::(nat_lit 59,aqq P)::(nat_lit 60,aqr P)::(nat_lit 62,aqs P)::(nat_lit 63,aqt P)::(nat_lit 71,aqu P)::(nat_lit 72,aqv P)::(nat_lit 78,aqw P)::(nat_lit 79,aqx P)::(nat_lit 85,aqy P)::(nat_lit 86,aqz P)::(nat_lit 92,aqA P)::(nat_lit 93,aqB P)::(nat_lit 99,aqC P)::(nat_lit 100,aqD P)::(nat_lit 106,aqE P)::(nat_lit 107,aqF P)::(nat_lit 113,aqG P)::(nat_lit 114,aqH P)::(nat_lit 120,aqI P)::(nat_lit 121,aqJ P)::(nat_lit 127,aqK P)::(nat_lit 128,aqL P)::(nat_lit 134,aqM P)::(nat_lit 135,aqN P)::(nat_lit 141,aqO P)::(nat_lit 142,aqP P)::(nat_lit 148,aqQ P)::(nat_lit 149,aqR P)::(nat_lit 155,aqS P)::(nat_lit 156,aqT P)::(nat_lit 169,aqU P)::(nat_lit 170,aqV P)::(nat_lit 176,aqW P)::(nat_lit 177,aqX P)::(nat_lit 183,aqY P)::(nat_lit 184,aqZ P)::(nat_lit 190,aq0 P)::(nat_lit 191,aq1 P)::(nat_lit 197,aq2 P)::(nat_lit 198,aq3 P)::(nat_lit 204,aq4 P)::(nat_lit 205,aq5 P)::(nat_lit 211,aq6 P)::(nat_lit 212,aq7 P)::(nat_lit 218,aq8 P)::(nat_lit 219,aq9 P)::(nat_lit 225,aq_ P)::(nat_lit 226,ara P)::(nat_lit 228,arb P)::(nat_lit 229,ard P)::(nat_lit 230,arf P)::(nat_lit 231,arh P)::(nat_lit 234,ari P)::(nat_lit 240,arj P)::(nat_lit 241,ark P)::(nat_lit 247,arl P)::(nat_lit 248,arn P)::(nat_lit 254,aro P)::(nat_lit 255,arp P)::(nat_lit 261,arq P)::(nat_lit 262,ars P)::(nat_lit 268,aru P)::(nat_lit 269,arv P)::(nat_lit 273,arw P)::(nat_lit 274,arx P)::(nat_lit 280,arz P)::(nat_lit 281,arA P)::(nat_lit 287,arB P)::(nat_lit 288,arC P)::(nat_lit 294,arD P)::(nat_lit 295,arE P)::(nat_lit 299,arF P)::(nat_lit 300,arG P)::(nat_lit 306,arH P)::(nat_lit 307,arI P)::(nat_lit 313,arJ P)::(nat_lit 314,arK P)::(nat_lit 320,arL P)::(nat_lit 321,arM P)::(nat_lit 327,arN P)::(nat_lit 328,arO P)::(nat_lit 334,arP P)::(nat_lit 335,arQ P)::(nat_lit 341,arR P)::(nat_lit 342,arS P)::(nat_lit 348,arT P)::(nat_lit 349,arU P)::(nat_lit 355,arV P)::(nat_lit 356,arW P)::(nat_lit 362,arX P)::(nat_lit 363,arY P)::(nat_lit 369,arZ P)::(nat_lit 370,ar0 P)::(nat_lit 376,ar3 P)::(nat_lit 377,ar4 P)::(nat_lit 383,ar5 P)::(nat_lit 384,ar6 P)::[]
noncomputable def wu:List Nat:=nat_lit 2::nat_lit 3::nat_lit 20::nat_lit 21::nat_lit 30::nat_lit 31::nat_lit 32::nat_lit 43::nat_lit 44::nat_lit 59::nat_lit 60::nat_lit 62::nat_lit 63::nat_lit 71::nat_lit 72::nat_lit 78::nat_lit 79::nat_lit 85::nat_lit 86::nat_lit 92::nat_lit 93::nat_lit 99::nat_lit 100::nat_lit 106::nat_lit 107::nat_lit 113::nat_lit 114::nat_lit 120::nat_lit 121::nat_lit 127::nat_lit 128::nat_lit 134::nat_lit 135::nat_lit 141::nat_lit 142::nat_lit 148::nat_lit 149::nat_lit 155::nat_lit 156::nat_lit 169::nat_lit 170::nat_lit 176::nat_lit 177::nat_lit 183::nat_lit 184::nat_lit 190::nat_lit 191::nat_lit 197::nat_lit 198::nat_lit 204::nat_lit 205::nat_lit 211::nat_lit 212::nat_lit 218::nat_lit 219::nat_lit 225::nat_lit 226::nat_lit 228::nat_lit 229::nat_lit 230::nat_lit 231::nat_lit 234::nat_lit 240::nat_lit 241::nat_lit 247::nat_lit 248::nat_lit 254::nat_lit 255::nat_lit 261::nat_lit 262::nat_lit 268::nat_lit 269::nat_lit 273::nat_lit 274::nat_lit 280::nat_lit 281::nat_lit 287::nat_lit 288::nat_lit 294::nat_lit 295::nat_lit 299::nat_lit 300::nat_lit 306::nat_lit 307::nat_lit 313::nat_lit 314::nat_lit 320::nat_lit 321::nat_lit 327::nat_lit 328::nat_lit 334::nat_lit 335::nat_lit 341::nat_lit 342::nat_lit 348::nat_lit 349::nat_lit 355::nat_lit 356::nat_lit 362::nat_lit 363::nat_lit 369::nat_lit 370::nat_lit 376::nat_lit 377::nat_lit 383::nat_lit 384::[]
noncomputable def qv:PySem.Program:={ PySem.Challenge.pw_putback_k72_no_kind_in_text with main:={ (PySem.Challenge.pw_putback_k72_no_kind_in_text).main with body:=top 0::top 2::top 3::top 4::top 6::top 7::top 8::top 9::top 10::top 11::top 13::top 14::top 15::top 16::top 17::top 18::top 19::top 20::top 21::top 22::top 23::top 24::top 26::top 27::top 28::top 29::top 30::top 31::top 32::top 34::top 35::top 36::top 37::top 38::top 39::top 40::top 41::top 42::top 43::top 44::top 45::top 46::top 47::top 48::top 49::[] } }
theorem zY (P:PySem.Params):wu=(KK P).map (·.1):=by kernel_rfl
theorem ar7 {K:W.Frag}{x:Str}{f c P:Addr}{oc occ:Value}{od odc:Option Addr}{fd:FuncData}{sl slc:Array (Option Value)}{vsC:Array Value}(a:W.nsIn K mainGlobals x=some (some (.ref f)))(l:K.lookup f=some ⟨oc,od,.func fd,sl⟩)(hc:fd.code=.ref c)
 (lc:K.lookup c=some ⟨occ,odc,.fields vsC,slc⟩) (hP:vsC[11]? =some (.ref P)):W.tabIn K x=some (c,P):=by
 unfold W.tabIn
 rw[a]
 dsimp only
 rw[l]
 dsimp only
 rw[hc]
 dsimp only
 rw[lc]
 dsimp only
 rw[hP]
noncomputable def ar_ (K:W.Frag) (tabs:List (Addr × Addr)):Sp:=λvs H Q _=>∃(a:Addr) (ns:List Int),vs=[.ref a]/\jK K H a ns/\ns.length<=63/\(∀q∈tabs,H q.2=some (.eF #[]))/\∀H',Q (.bl true) H'
theorem jK.ofT {K:W.Frag}{H:Hp}{a:Addr}{ns:List Int}{tabs:List Addr}(o:Bu tabs H)(h:aL K H a (ns.map V.int)):jK K H a ns:=by
 rcases h with(h|h)|h
 . rcases o a with z|⟨ob,xs,z⟩|⟨_,z⟩ <;> rw[h] at z <;> cases z
 . exact .inl h
 . exact .inr h
theorem walk {l:W.OpenLaw}{q:Program}{loose:List Str}{XP:(Str->Option Value)->Heap->Prop}{YP:World->Heap->Prop}{d:DefRec}{K:Params->W.Frag}(hn:l.most=some 63)(hdf:d.params.defaults=[])
 (hY:∀(w:World) (h:Heap),YP w h->(K w.params).In h) (nA:∀w:World,W.noTabs (K w.params)=true) (hrec:∃d',(PyProof.Rows.recsOf q).find? (λe=>e.name == ("sorted_fields":Str))=some d')
 (F:∀w:World,∃c Pt:Addr,W.tabIn (K w.params) "sorted_fields"=some (c,Pt)/\∀(mg:Str->Option Value) (fa:Addr) (h:Heap),(K w.params).In h->h.Ns mainGlobals mg->mg d.name=some (.ref fa)->
   ∃fd:FuncData,(∀(s:Shared) (u:Value),BindsTo s fd ⟨[u],[]⟩ [("_law_script",u)])/\∀base:Heap,(K w.params).In base->base.Ns mainGlobals mg->BM mg base->aB l.prog w (K w.params) mg base aO 102 fa fd ["_law_script"] (KC (K w.params) Pt)):
 W.WalkO q loose XP YP l.row.toRowW d [] (λf vs=>PySem.call f vs):=
 L2.ae7 (n:=63) (k:=102) (x:="_law_script") (names:=["sorted_fields"]) (sp:=λw tabs=>ar_ (K w.params) tabs) hn (by decide) hdf ⟨rfl,by decide,by decide⟩ hY nA (λw=>by
   obtain⟨c,Pt,ht,F⟩:=F w
   refine⟨[(c,Pt)],λq' hq=>?_,λmg fa h X G hm=>?_⟩
   . exact⟨"sorted_fields",by simp,by rw[List.mem_singleton.mp hq];exact ht⟩
   obtain⟨fd,hb,hF⟩:=F mg fa h X G hm
   exact⟨fd,hb,λbase X1 G1 B=>(hF base X1 G1 B).imp λvs H Q E ⟨a,ns,e,hS,hl,hT,q⟩=>⟨a,ns,e,hS,hl,.inl (hT _ List.mem_cons_self),q⟩⟩)
   (λy hy=>by rw[List.mem_singleton.mp hy];exact hrec) λw tabs H a ns hl hO hPt hSq=>⟨a,ns,rfl,jK.ofT hO hSq,hl,hPt,λ_=>rfl⟩
end Pb
open PySem PySem.W PyProof.Rows
set_option maxRecDepth 100000 in
set_option maxHeartbeats 0 in
theorem PySem.Challenge.cw_putback_k72_no_kind_in_text_holds : PySem.Challenge.rw_putback_k72_no_kind_in_text.Holds := by
 w_on;o_law
 refine holds_open (q:=Pb.qv) (loose:=[]) (Xt:=λs=>xlAt Pb.qv [] s && recOk (RowW.records (PySem.W.OpenRow.toRowW (PySem.W.OpenLaw.row PySem.Challenge.rw_putback_k72_no_kind_in_text))) s) (XP:=XL Pb.qv []) (Yf:=Hook.obs (PySem.W.kmHook Pb.KK Pb.wu Pb.zY [81])) (Ya:=Hook.val (PySem.W.kmHook Pb.KK Pb.wu Pb.zY [81])) (YP:=Hook.says (PySem.W.kmHook Pb.KK Pb.wu Pb.zY [81])) (N:=5000) ?hl (Hook.of (PySem.W.kmHook Pb.KK Pb.wu Pb.zY [81])) (Hook.keeps (PySem.W.kmHook Pb.KK Pb.wu Pb.zY [81])) (λs e=>xl_of s (Bool.and_eq_true_iff.mp e).1) XL.keeps (by rfl) (by rfl) (by rfl) (λs e=>recFacts_of (Bool.and_eq_true_iff.mp e).2) (by rfl) (by first|assumption|decide +kernel) (by decide +kernel) ⟨rfl,rfl,rfl,rfl,rfl,by decide +kernel⟩ ?hw ?hc
 case hl=>exact Pb.ajY (by rfl) (by rfl) (λs=>rfl) (by intro w os;kernel_rfl)
 (case hw=>w_witness2)
 k_fill
 refine Pb.walk (l:=PySem.Challenge.rw_putback_k72_no_kind_in_text) rfl rfl (λw h Y=>PySem.W.km_in_of Y) (λw=>by kernel_rfl) ⟨_,rfl⟩ ?F
 case F=>
  intro w
  refine' ⟨_,_,?ht,?GG⟩
  case ht=>
   refine' Pb.ar7 ?ta ?tl ?tc ?tlc ?tP
   (case ta=>k_is);(case tl=>k_is);(case tc=>rfl);(case tlc=>k_is);(case tP=>rfl)
  case GG=>
   intro mg fa h KX G hmg
   refine' Pb.all_mk KX G hmg ?a0 ?l0 ?c0 ?k0 ?a1 ?l1 ?c1 ?k1 ?a2 ?l2 ?c2 ?k2 ?a3 ?l3 ?c3 ?k3 ?a4 ?l4 ?c4 ?k4 ?a5 ?l5 ?c5 ?k5 ?a6 ?l6 ?c6 ?k6 ?a7 ?l7 ?c7 ?k7 ?a8 ?l8 ?c8 ?k8 ?a9 ?l9 ?c9 ?k9 ?a10 ?l10 ?qe ?k10 ?a11 ?Ls ?qg ?k11 ?a12 ?Lw ?c12 ?k12 ?a13 ?lK ?Lx ?k13 ?a14 ?Ly ?Lz ?k14 ?a15 ?LC ?LK ?LQ ?a16 ?LR ?c16 ?L_ ?a17 ?Ma ?Mf ?Mg ?a18 ?Mh ?Mi ?Mj ?a19 ?Ml ?Mp ?Mq ?a20 ?Mr ?Ms ?Mt ?a21 ?Mu ?c21 ?Mw ?a22 ?Mz ?MF ?MJ ?a23 ?MK ?MN ?M4 ?a24 ?M5 ?M6 ?M7 ?a25 ?M8 ?M9 ?M_ ?a26 ?Nb ?Nf ?Ng ?a27 ?Nh ?Ni ?Nj ?a28 ?Nk ?Np ?Nq ?a29 ?Nr ?Nt ?Nu ?a30 ?Nv ?Nx ?Ny ?a31 ?Nz ?NK ?NQ ?a32 ?NZ ?N5 ?N6 ?a33 ?N7 ?N8 ?N_ ?a34 ?Oa ?Ob ?Oc ?Od ?Oe ?Og ?Oh ?Oi ?Oj ?Ol ?Om ?Oo ?Oq ?Ot ?Ou ?Ov ?Ow ?Ox ?Oz ?abr ?abt ?OD ?abw ?abx ?OJ ?Et ?O1 ?O2 ?O3 ?O4 ?O5 ?O6 ?O7 ?O8 ?O9 ?am0 ?O_ ?Pa ?Pg ?am1 ?Ph ?Pj ?Eu ?am2 ?Pk ?Pn ?Ew ?am3 ?Pq ?Pr ?Ey ?am4 ?Pu ?Px ?Ez ?am5 ?Py ?Pz ?EY ?am6 ?PB ?PK ?E_ ?am7 ?PL ?PN ?Fb ?am8 ?PX ?P0 ?P_ ?Qa ?at0 ?Qc ?at1 ?Qe ?at2 ?Qf ?Qg ?Qh ?Qi ?Qj ?Qk ?Ql ?Qo ?Qq ?Qs ?Qt ?at8 ?Qu ?Qv ?Qw ?Qx ?Qy ?Qz ?QB ?QC ?QD ?QF ?QG ?QH ?Fe ?QJ ?QK ?QL ?QM ?QS ?cp_is ?QT ?QV ?QW ?QZ ?Q5 ?Q6 ?Q7 ?Q8 ?Q9 ?Q_ ?Ra ?Rb ?Rc ?Rg ?Rh ?Ri ?Rj ?lcS ?hPS ?Rk
   (case a0=>k_is);(case l0=>k_is);(case c0=>k_is);(case k0=>k_is)
   (case a1=>k_is);(case l1=>k_is);(case c1=>k_is);(case k1=>k_is)
   (case a2=>k_is);(case l2=>k_is);(case c2=>k_is);(case k2=>k_is)
   (case a3=>k_is);(case l3=>k_is);(case c3=>k_is);(case k3=>k_is)
   (case a4=>k_is);(case l4=>k_is);(case c4=>k_is);(case k4=>k_is)
   (case a5=>k_is);(case l5=>k_is);(case c5=>k_is);(case k5=>k_is)
   (case a6=>k_is);(case l6=>k_is);(case c6=>k_is);(case k6=>k_is)
   (case a7=>k_is);(case l7=>k_is);(case c7=>k_is);(case k7=>k_is)
   (case a8=>k_is);(case l8=>k_is);(case c8=>k_is);(case k8=>k_is)
   (case a9=>k_is);(case l9=>k_is);(case c9=>k_is);(case k9=>k_is)
   (case a10=>k_is);(case l10=>k_is);(case qe=>k_is);(case k10=>k_is)
   (case a11=>k_is);(case Ls=>k_is);(case qg=>k_is);(case k11=>k_is)
   (case a12=>k_is);(case Lw=>k_is);(case c12=>k_is);(case k12=>k_is)
   (case a13=>k_is);(case lK=>k_is);(case Lx=>k_is);(case k13=>k_is)
   (case a14=>k_is);(case Ly=>k_is);(case Lz=>k_is);(case k14=>k_is)
   (case a15=>k_is);(case LC=>k_is);(case LK=>k_is);(case LQ=>k_is)
   (case a16=>k_is);(case LR=>k_is);(case c16=>k_is);(case L_=>k_is)
   (case a17=>k_is);(case Ma=>k_is);(case Mf=>k_is);(case Mg=>k_is)
   (case a18=>k_is);(case Mh=>k_is);(case Mi=>k_is);(case Mj=>k_is)
   (case a19=>k_is);(case Ml=>k_is);(case Mp=>k_is);(case Mq=>k_is)
   (case a20=>k_is);(case Mr=>k_is);(case Ms=>k_is);(case Mt=>k_is)
   (case a21=>k_is);(case Mu=>k_is);(case c21=>k_is);(case Mw=>k_is)
   (case a22=>k_is);(case Mz=>k_is);(case MF=>k_is);(case MJ=>k_is)
   (case a23=>k_is);(case MK=>k_is);(case MN=>k_is);(case M4=>k_is)
   (case a24=>k_is);(case M5=>k_is);(case M6=>k_is);(case M7=>k_is)
   (case a25=>k_is);(case M8=>k_is);(case M9=>k_is);(case M_=>k_is)
   (case a26=>k_is);(case Nb=>k_is);(case Nf=>k_is);(case Ng=>k_is)
   (case a27=>k_is);(case Nh=>k_is);(case Ni=>k_is);(case Nj=>k_is)
   (case a28=>k_is);(case Nk=>k_is);(case Np=>k_is);(case Nq=>k_is)
   (case a29=>k_is);(case Nr=>k_is);(case Nt=>k_is);(case Nu=>k_is)
   (case a30=>k_is);(case Nv=>k_is);(case Nx=>k_is);(case Ny=>k_is)
   (case a31=>k_is);(case Nz=>k_is);(case NK=>k_is);(case NQ=>k_is)
   (case a32=>k_is);(case NZ=>k_is);(case N5=>k_is);(case N6=>k_is)
   (case a33=>k_is);(case N7=>k_is);(case N8=>k_is);(case N_=>k_is)
   (case a34=>k_is);(case Oa=>k_is);(case Ob=>k_is);(case Oc=>k_is)
   (case Od=>k_is)
   (case Oe=>k_is)
   (case Og=>k_is)
   (case Oh=>k_is)
   (case Oi=>k_is)
   (case Oj=>k_is)
   (case Ol=>k_is)
   (case Om=>k_is)
   (case Oo=>k_is)
   (case Oq=>k_is)
   (case Ot=>k_is)
   (case Ou=>k_is)
   (case Ov=>k_is)
   (case Ow=>k_is)
   (case Ox=>k_is)
   (case Oz=>k_is);(case abr=>k_is);(case abt=>rfl)
   (case OD=>k_is);(case abw=>k_is);(case abx=>rfl)
   (case OJ=>k_is)
   (case Et=>k_is)
   (case O1=>k_is)
   (case O2=>k_is)
   (case O3=>k_is)
   (case O4=>k_is)
   (case O5=>k_is)
   (case O6=>k_is)
   (case O7=>rfl)
   (case O8=>decide)
   (case O9=>rfl)
   (case am0=>k_is);(case O_=>k_is);(case Pa=>k_is);(case Pg=>k_is)
   (case am1=>k_is);(case Ph=>k_is);(case Pj=>k_is);(case Eu=>k_is)
   (case am2=>k_is);(case Pk=>k_is);(case Pn=>k_is);(case Ew=>k_is)
   (case am3=>k_is);(case Pq=>k_is);(case Pr=>k_is);(case Ey=>k_is)
   (case am4=>k_is);(case Pu=>k_is);(case Px=>k_is);(case Ez=>k_is)
   (case am5=>k_is);(case Py=>k_is);(case Pz=>k_is);(case EY=>k_is)
   (case am6=>k_is);(case PB=>k_is);(case PK=>k_is);(case E_=>k_is)
   (case am7=>k_is);(case PL=>k_is);(case PN=>k_is);(case Fb=>k_is)
   (case am8=>k_is);(case PX=>k_is);(case P0=>k_is);(case P_=>k_is)
   (case Qa=>kernel_rfl)
   (case at0=>kernel_rfl)
   (case Qc=>kernel_rfl)
   (case at1=>kernel_rfl)
   (case Qe=>kernel_rfl)
   (case at2=>kernel_rfl)
   (case Qf=>kernel_rfl)
   (case Qg=>kernel_rfl)
   (case Qh=>kernel_rfl)
   (case Qi=>kernel_rfl)
   (case Qj=>kernel_rfl)
   (case Qk=>kernel_rfl)
   (case Ql=>kernel_rfl)
   (case Qo=>kernel_rfl)
   (case Qq=>kernel_rfl)
   (case Qs=>kernel_rfl)
   (case Qt=>kernel_rfl)
   (case at8=>kernel_rfl)
   (case Qu=>kernel_rfl)
   (case Qv=>kernel_rfl)
   (case Qw=>kernel_rfl)
   (case Qx=>kernel_rfl)
   (case Qy=>kernel_rfl)
   (case Qz=>kernel_rfl)
   (case QB=>kernel_rfl)
   (case QC=>kernel_rfl)
   (case QD=>kernel_rfl)
   (case QF=>kernel_rfl)
   (case QG=>kernel_rfl)
   (case QH=>kernel_rfl)
   (case Fe=>kernel_rfl)
   (case QJ=>kernel_rfl)
   (case QK=>kernel_rfl)
   (case QL=>kernel_rfl)
   (case QM=>kernel_rfl)
   (case QS=>kernel_rfl)
   (case cp_is=>kernel_rfl)
   (case QT=>kernel_rfl)
   (case QV=>kernel_rfl)
   (case QW=>kernel_rfl)
   (case QZ=>kernel_rfl)
   (case Q5=>kernel_rfl)
   (case Q6=>kernel_rfl)
   (case Q7=>kernel_rfl)
   (case Q8=>kernel_rfl)
   (case Q9=>kernel_rfl)
   (case Q_=>kernel_rfl)
   (case Ra=>kernel_rfl)
   (case Rb=>kernel_rfl)
   (case Rc=>kernel_rfl)
   (case Rg=>kernel_rfl)
   (case Rh=>kernel_rfl)
   (case Ri=>kernel_rfl)
   (case Rj=>rfl)
   (case lcS=>k_is)
   (case hPS=>rfl)
   (case Rk=>kernel_rfl)
