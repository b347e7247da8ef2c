import PyProof.Rows.All
import Wide.All
import OpenK.AllK
import Wide.FinOn
import PyProof.EqAt
import PyProof.EqKinds
import PyProof.TupleCall
import KE.BitLaws
import Open.SpecLaws
import KE.OsHead
import KE.OsGo
import KE.KDictOf
import KE.KEqDict
import KE.KDictSum
import KE.KSortedAny
import PyProof.Draws
import PyProof.EnumMake
import PySem.Challenge.RW_surelines_s01_answers
import PyProof.DictRoadsH
import PyProof.Rows.TupDisplay
import KE.KRevIter
import PyProof.ListRange
import PyProof.WalkInts
import PyProof.Rows.CallKwBuiltin
set_option Elab.async false
set_option linter.all false
set_option maxRecDepth 100000
set_option maxHeartbeats 2000000
noncomputable section
namespace L2
open PySem PySem.Spec PyProof.Rows
abbrev Key:=Sum Int Str
noncomputable def Z6f:Key->Value->Bool
 |.inl k,v=>Value.isInt k v
 |.inr x,v=>Value.isStrOf x v
noncomputable def keyH (w:World):Key->Int
 |.inl k=>hashInt k
 |.inr x=>hashStr w x
theorem Yn:∀{k:Key} {v:Value},Z6f k v=true->(∃i t,k=Sum.inl i/\v=Value.int i t)\/(∃x t,k=Sum.inr x/\v=Value.str x t)
 |.inl i,v,h=>by
  obtain⟨t,e⟩:=Value.isInt_shape (k:=i) (v:=v) h
  exact .inl ⟨i,t,rfl,e⟩
 |.inr x,v,h=>by
  obtain⟨t,e⟩:=Value.isStrOf_shape (x:=x) (v:=v) h
  exact .inr ⟨x,t,rfl,e⟩
theorem Zdo (i:Int)(t:Tok):Z6f (.inl i) (.int i t)=true:=by simp[Z6f,Value.isInt]
theorem Zdp (x:Str)(t:Tok):Z6f (.inr x) (.str x t)=true:=by simp[Z6f,Value.isStrOf]
theorem Zk9 (a b:Int):decide ((Sum.inl a:Key)=Sum.inl b)=(a==b):=by
 by_cases e:a=b
 ·subst e;simp
 ·have h:¬(Sum.inl a:Key)=Sum.inl b:=λq=>e (Sum.inl.inj q)
  rw[decide_eq_false h]
  exact(beq_eq_false_iff_ne.mpr e).symm
theorem Zka (a b:Str):decide ((Sum.inr a:Key)=Sum.inr b)=decide (a=b):=by
 by_cases e:a=b
 ·subst e;simp
 ·have h:¬(Sum.inr a:Key)=Sum.inr b:=λq=>e (Sum.inr.inj q)
  rw[decide_eq_false h,decide_eq_false e]
theorem Zkb (a:Int)(b:Str):decide ((Sum.inl a:Key)=Sum.inr b)=false:=decide_eq_false (λq=>nomatch q)
theorem Zkc (a:Str)(b:Int):decide ((Sum.inr a:Key)=Sum.inl b)=false:=decide_eq_false (λq=>nomatch q)
noncomputable def Yu (prog:Program)(w:World):PySem.KeyKind prog w Key where
 is:=Z6f
 hash:=keyH w
 inj:=λv a b ha hb=>by
  rcases Yn ha with⟨i,t,rfl,rfl⟩ | ⟨x,t,rfl,rfl⟩
  ·rcases Yn hb with⟨j,u,rfl,e⟩ | ⟨y,u,rfl,e⟩
   ·injection e with e1 _;rw[e1]
   ·exact nomatch e
  ·rcases Yn hb with⟨j,u,rfl,e⟩ | ⟨y,u,rfl,e⟩
   ·exact nomatch e
   ·injection e with e1 _;rw[e1]
 byValue:=λk v h=>by
  rcases Yn h with⟨i,t,rfl,rfl⟩ | ⟨x,t,rfl,rfl⟩ <;> rfl
 pyHash:=λhv h=>by
  rcases Yn hv with⟨i,t,rfl,rfl⟩ | ⟨x,t,rfl,rfl⟩
  ·exact wpAny_pyHash_int h
  ·exact wpAny_pyHash_str h
 eqBool:=λhu hv h=>by
  rcases Yn hu with⟨i,t,rfl,rfl⟩ | ⟨x,t,rfl,rfl⟩
  ·rcases Yn hv with⟨j,u,rfl,rfl⟩ | ⟨y,u,rfl,rfl⟩
   ·rw[Zk9]at h;exact wpAny_eqBool_int h
   ·rw[Zkb]at h;exact SeqAt.EqAt.int_str i t y u _ _ _ _ h
  ·rcases Yn hv with⟨j,u,rfl,rfl⟩ | ⟨y,u,rfl,rfl⟩
   ·rw[Zkc]at h;exact SeqAt.EqAt.str_int x t j u _ _ _ _ h
   ·rw[Zka]at h;exact wpAny_eqBool_str h
 «strs»:=λk x t v h=>by
  rcases Yn h with⟨i,u,rfl,e⟩ | ⟨y,u,rfl,e⟩
  ·exact nomatch e
  ·injection e with e1 _
   subst e1
   cases v <;> rfl
theorem Z9o (prog:Program)(w:World)(i:Int)(t:Tok):(Yu prog w).is (.inl i) (.int i t)=true:=Zdo i t
theorem Z9p (prog:Program)(w:World)(x:Str)(t:Tok):(Yu prog w).is (.inr x) (.str x t)=true:=Zdp x t
end L2
namespace L2
open PySem PySem.Spec PyProof.Rows
inductive V where
 |non | bl (b:Bool) | int (i:Int) | str (x:Str) | byt (b:Array UInt8) | flt (b:UInt64) | ref (a:Addr) | ty (n:String)
 deriving DecidableEq
noncomputable def RelV:V->Value->Prop
 |.non,u=>u=Value.none
 |.bl b,u=>u=Value.bool b
 |.int i,u=>∃t,u=Value.int i t
 |.str x,u=>∃t,u=Value.str x t
 |.byt b,u=>∃t,u=Value.bytes b t
 |.flt b,u=>∃t,u=Value.float b t
 |.ref a,u=>u=Value.ref a
 |.ty n,u=>u=Value.type n
abbrev Vals:List V->List Value->Prop:=Paired RelV
theorem Vals.length {xs:List V}{us:List Value}(r:Vals xs us):xs.length=us.length:=Paired.length r
theorem Vals.get:∀{xs:List V} {us:List Value} {i:Nat} {x:V},Vals xs us->xs[i]?=some x->∃u,us[i]?=some u/\RelV x u
 |_,_,_,_,.nil,e=>by simp at e
 |_,_,0,_,.cons r _,e=>by simp at e;subst e;exact⟨_,rfl,r⟩
 |_,_,i+1,x,.cons _ t,e=>by
  obtain⟨u,h1,h2⟩:=Vals.get (i:=i) (x:=x) t (by simpa using e)
  exact⟨u,by simpa using h1,h2⟩
theorem Vals.set {x:V}{u:Value}(r:RelV x u):∀{xs:List V} {us:List Value} (i:Nat),Vals xs us->Vals (xs.set i x) (us.set i u)
 |_,_,_,.nil=>.nil
 |_,_,0,.cons _ t=>.cons r t
 |_,_,i+1,.cons q t=>.cons q (Vals.set r i t)
theorem Vals.append:∀{xs ys:List V} {us ws:List Value},Vals xs us->Vals ys ws->Vals (xs++ys) (us++ws)
 |_,_,_,_,.nil,s=>s
 |_,_,_,_,.cons r t,s=>.cons r (Vals.append t s)
theorem Vals.take:∀{xs:List V} {us:List Value} (n:Nat),Vals xs us->Vals (xs.take n) (us.take n)
 |_,_,0,_=>.nil
 |_,_,_+1,.nil=>.nil
 |_,_,n+1,.cons r t=>.cons r (Vals.take n t)
theorem Vals.drop:∀{xs:List V} {us:List Value} (n:Nat),Vals xs us->Vals (xs.drop n) (us.drop n)
 |_,_,0,r=>r
 |_,_,_+1,.nil=>.nil
 |_,_,n+1,.cons _ t=>Vals.drop n t
noncomputable def RelO:Option V->Option Value->Prop
 |some v,some u=>RelV v u
 |none,none=>True
 |_,_=>False
noncomputable def KV {κ:Type}:List (κ×V)->List (κ×Value)->Prop:=Paired λ(p:κ×V) (q:κ×Value)=>p.1=q.1/\RelV p.2 q.2
noncomputable def kV:Key->V
 |.inl i=>.int i
 |.inr x=>.str x
inductive HO where
 /-- a list -/
 |lst (xs:List V)
 /-- a tuple (never changes) -/
 |tup (xs:List V)
 /-- a dict whose keys are ints and texts;one whose keys are tuples of ints and texts (the empty one is both) -/
 |dK (kvs:List (Key×V)) | dT (kvs:List (List Key×V))
 /-- a set of ints: its members,its size -/
 |set (S:Int->Bool) (n:Nat)
 /-- an instance of the class at C,its dict at dx,its attributes -/
 |ins (C dx:Addr) (fs:List (Str×V))
 /-- the dict of the instance at x -/
 |own (x:Addr)
 /-- the dict of an exception -/
 |xd (fs:List (Str×V))
 /-- a bound method,f of x -/
 |met (f x:Addr)
 /-- a range object lo,lo+1,.. below hi -/
 |rng (lo hi:Int)
 /-- a thing that is known to the object (the script;a dict while a loop walks it): read,never written while it is so -/
 |frz (o:Obj) (u:HO)
 /-- a code object's table -/
 |tbl (ps:Array Value)
 /-- any other thing,by what is true of its one object (a def of one's own: SetO a S n:=HO.ext λh=>..) -/
 |ext (φ:Heap->Prop)
abbrev Hp:=Addr->Option HO
noncomputable def upd (H:Hp)(a:Addr)(o:HO):Hp:=λb=>if b=a then some o else H b
theorem Ze {H:Hp}{a:Addr}{o:HO}:upd H a o a=some o:=by unfold upd;rw[if_pos rfl]
theorem Zk {H:Hp}{a b:Addr}{o:HO}(h:b≠a):upd H a o b=H b:=by unfold upd;rw[if_neg h]
theorem Zdq {H:Hp}{a:Addr}{o u:HO}:upd (upd H a o) a u=upd H a u:=by
 funext b;unfold upd;split <;> rfl
theorem Xl {H:Hp}{a b:Addr}{o u:HO}(h:H a=some o)(h':H b=some u)(d:o≠u):a≠b:=by
 intro e;subst e;rw[h]at h';exact d (Option.some.inj h')
theorem Zm {H:Hp}{a b:Addr}{o:HO}(h:H a=some o)(h':H b=none):a≠b:=by
 intro e;subst e;rw[h]at h';cases h'
noncomputable section
variable (P:Program)(w:World)
noncomputable def ObjOk (H:Hp)(h:Heap)(a:Addr):HO->Prop
 |.lst xs=>xs.length<=sizeLine/\∃(its:List Value) (n:Nat),Vals xs its/\h.get? a=some {cls:=.type "list",data:=.seq its.toArray n}
 |.tup xs=>xs.length<=sizeLine/\∃its:List Value,Vals xs its/\IsTup h a its.toArray
 |.dK kvs=>kvs.length<=sizeLine/\(a==sysModules)=false/\∃vs,KV kvs vs/\h.DictOf (Yu P w) a vs
 |.dT kvs=>kvs.length<=sizeLine/\(a==sysModules)=false/\∃xs:List (List Key×Addr×Value),
   Paired (λ(p:List Key×V) (q:List Key×Addr×Value)=>p.1=q.1/\H q.2.1=some (.tup (p.1.map kV))/\RelV p.2 q.2.2) kvs xs/\
   ∃o es ep,h.get? a=some o/\o.ExactDict/\o.data=.dict es ep/\es.toList=xs.map (entryOfKey (tupleKind (Yu P w)))/\(xs.map (·.1)).Nodup
 |.set S n=>h.SetOf (intKind P w) a S n
 |.ins C dx fs=>H dx=some (.own a)/\fs.length<=1000/\dx≠a/\h.get? a=some (PySem.W.instObj C dx)/\
   ∃mA,h.Ns1 dx mA/\(∀f,RelO (fs.lookup f) (mA f))/\PySem.Within mA (fs.map (·.1))
 |.own _=>∃o,h.get? a=some o
 |.xd fs=>∃mA,h.Ns1 a mA/\∀f,RelO (fs.lookup f) (mA f)
 |.rng lo hi=>∃t u v,h.get? a=some {cls:=.type "range",data:=.fields #[.int lo t,.int hi u,.int 1 v]}
 |.frz o u=>h.get? a=some o/\ObjOk H h a u
 |.tbl ps=>h.get? a=some {cls:=.none,data:=.fields ps}
 |.met f x=>h.get? a=some (PySem.W.methodObj (.ref f) (.ref x))
 |.ext φ=>φ h/\(∃o,h.get? a=some o)/\∀h1 h2:Heap,φ h1->(∀o,h1.get? a=some o->h2.get? a=some o)->φ h2
noncomputable def HOk (H:Hp)(h:Heap):Prop:=∀a o,H a=some o->ObjOk P w H h a o
end
noncomputable section
variable {P:Program}{w:World}{H H':Hp}{h h':Heap}{a:Addr}{o:HO}
theorem ObjOk.lt (x:ObjOk P w H h a o):a<h.objs.size:=by
 cases o with
 |lst xs=>obtain⟨_,_,_,_,e⟩:=x;exact Heap.lt_size e
 |tup xs=>obtain⟨_,_,_,p⟩:=x;exact p.lt
 |dK kvs=>obtain⟨_,_,_,_,o,_,_,e,_⟩:=x;exact Heap.lt_size e
 |dT kvs=>obtain⟨_,_,_,_,o,_,_,e,_⟩:=x;exact Heap.lt_size e
 |set S n=>obtain⟨o,_,_,_,e,_⟩:=x;exact Heap.lt_size e
 |ins C dx fs=>obtain⟨_,_,_,e,_⟩:=x;exact Heap.lt_size e
 |own y=>obtain⟨_,e⟩:=x;exact Heap.lt_size e
 |xd fs=>obtain⟨_,⟨_,_,_,e,_⟩,_⟩:=x;exact Heap.lt_size e
 |rng lo hi=>obtain⟨_,_,_,e⟩:=x;exact Heap.lt_size e
 |frz ob u=>obtain⟨e,_⟩:=x;exact Heap.lt_size e
 |tbl ps=>exact Heap.lt_size (show h.get? a=some _ from x)
 |met f y=>exact Heap.lt_size (show h.get? a=some _ from x)
 |ext φ=>obtain⟨_,⟨_,e⟩,_⟩:=x;exact Heap.lt_size e
theorem Paired.mapP {α β:Type}{F G:α->β->Prop}:∀{l₁:List α} {l₂:List β},Paired F l₁ l₂->(∀a b,F a b->G a b)->Paired G l₁ l₂
 |_,_,.nil,_=>.nil
 |_,_,.cons r t,f=>.cons (f _ _ r) (Paired.mapP t f)
theorem ObjOk.stay (x:ObjOk P w H h a o)(k:∀b u,(b=a\/H b=some (.own a))->h.get? b=some u->h'.get? b=some u)
  (ho:∀b,H b=some (.own a)->H' b=some (.own a)) (ht:∀b xs,H b=some (.tup xs)->H' b=some (.tup xs)):ObjOk P w H' h' a o:=by
 induction o with
 |lst xs=>obtain⟨z,its,n,r,e⟩:=x;exact⟨z,its,n,r,k _ _ (.inl rfl) e⟩
 |tup xs=>obtain⟨z,its,r,ob,e,c⟩:=x;exact⟨z,its,r,ob,k _ _ (.inl rfl) e,c⟩
 |dK kvs=>obtain⟨z,y,vs,r,ob,es,ep,e,c⟩:=x;exact⟨z,y,vs,r,ob,es,ep,k _ _ (.inl rfl) e,c⟩
 |dT kvs =>
  obtain⟨z,y,xs,r,ob,es,ep,e,c⟩:=x
  exact⟨z,y,xs,Paired.mapP r λp q z=>⟨z.1,ht _ _ z.2.1,z.2.2⟩,ob,es,ep,k _ _ (.inl rfl) e,c⟩
 |set S n=>obtain⟨ob,es,ep,t,e,c⟩:=x;exact⟨ob,es,ep,t,k _ _ (.inl rfl) e,c⟩
 |ins C dx fs =>
  obtain⟨d,z,ne,e,mA,⟨od,es,ep,e2,c⟩,r⟩:=x
  exact⟨ho _ d,z,ne,k _ _ (.inl rfl) e,mA,⟨od,es,ep,k _ _ (.inr d) e2,c⟩,r⟩
 |own y=>obtain⟨ob,e⟩:=x;exact⟨ob,k _ _ (.inl rfl) e⟩
 |xd fs=>obtain⟨mA,⟨od,es,ep,e,c⟩,r⟩:=x;exact⟨mA,⟨od,es,ep,k _ _ (.inl rfl) e,c⟩,r⟩
 |rng lo hi=>obtain⟨t,u,v,e⟩:=x;exact⟨t,u,v,k _ _ (.inl rfl) e⟩
 |frz ob u ih=>obtain⟨e,q⟩:=x;exact⟨k _ _ (.inl rfl) e,ih q⟩
 |tbl ps =>
  have e:h.get? a=some {cls:=.none,data:=.fields ps}:=x
  show h'.get? a=some {cls:=.none,data:=.fields ps}
  exact k a _ (.inl rfl) e
 |met f y =>
  have e:h.get? a=some (PySem.W.methodObj (.ref f) (.ref y)):=x
  show h'.get? a=some (PySem.W.methodObj (.ref f) (.ref y))
  exact k a _ (.inl rfl) e
 |ext φ=>obtain⟨p,⟨o,e⟩,st⟩:=x;exact⟨st _ _ p λo q=>k _ _ (.inl rfl) q,⟨o,k _ _ (.inl rfl) e⟩,st⟩
theorem HOk.lt (x:HOk P w H h)(e:H a=some o):a<h.objs.size:=(x a o e).lt
theorem HOk.fresh (x:HOk P w H h)(e:h.objs.size<=a):H a=none:=by
 cases q:H a with
 |none=>rfl
 |some u=>exact absurd (Nat.lt_of_lt_of_le (x.lt q) e) (Nat.lt_irrefl _)
theorem HOk.kept (x:HOk P w H h)(k:∀b u,h.get? b=some u->h'.get? b=some u):HOk P w H h':=λa o e =>
 (x a o e).stay (λb u _ q=>k b u q) (λ_ q=>q) λ_ _ q=>q
theorem HOk.laid (x:HOk P w H h)(k:∀b u,h.get? b=some u->h'.get? b=some u)(hp:h.objs.size<=a)(new:ObjOk P w (upd H a o) h' a o):HOk P w (upd H a o) h':=λb u e=>by
 have hn:=x.fresh hp
 by_cases hb:b=a
 ·subst hb;rw[Ze]at e;cases e;exact new
 ·rw[Zk hb]at e
  exact(x b u e).stay (λc v _ q=>k c v q) (λc q=>by rw[Zk (Zm q hn)];exact q) λc xs q=>by rw[Zk (Zm q hn)];exact q
end
noncomputable def Rd (H:Hp)(a:Addr)(u:HO):Prop:=H a=some u\/∃o,H a=some (.frz o u)
theorem Rd.ok {P:Program}{w:World}{H:Hp}{h:Heap}{a:Addr}{u:HO}(r:Rd H a u)(x:HOk P w H h):ObjOk P w H h a u:=by
 rcases r with r | ⟨o,r⟩
 ·exact x a u r
 ·obtain⟨_,q⟩:=x a _ r
  exact q
noncomputable def Mut:Option HO->Prop
 |some (.lst _)=>True
 |some (.dK _)=>True
 |some (.dT _)=>True
 |some (.set _ _)=>True
 |some (.ins _ _ _)=>True
 |some (.ext _)=>True
 |_=>False
noncomputable section
variable {P:Program}{w:World}{H:Hp}{h h':Heap}{x e:Addr}{o':HO}
theorem HOk.write (ok:HOk P w H h)(mu:Mut (H x))(he:e=x\/H e=some (.own x))(k:∀b u,b≠e->h.get? b=some u->h'.get? b=some u)(heo:∃u,h'.get? e=some u)
  (new:ObjOk P w (upd H x o') h' x o'):HOk P w (upd H x o') h':=λb u q=>by
 have nown:∀c y,H c=some (.own y)->c≠x:=λc y r z=>by subst z;rw[r]at mu;exact mu
 have ntup:∀c xs,H c=some (.tup xs)->c≠x:=λc xs r z=>by subst z;rw[r]at mu;exact mu
 by_cases hb:b=x
 ·subst hb;rw[Ze]at q;cases q;exact new
 ·rw[Zk hb]at q
  by_cases hbe:b=e
  ·have q':H b=some (.own x):=by
    rcases he with z | z
    ·exact absurd (hbe.trans z) hb
    ·rw[hbe];exact z
   rw[q]at q';cases q'
   obtain⟨v,hv⟩:=heo
   exact⟨v,by rw[hbe];exact hv⟩
  ·refine(ok b u q).stay (λc v hc r=>k c v ?_ r) (λc r=>by rw[Zk (nown c b r)];exact r) λc xs r=>by rw[Zk (ntup c xs r)];exact r
   rcases hc with rfl | hc
   ·exact hbe
   ·rintro rfl
    rcases he with z | z
    ·exact nown c b hc z
    ·rw[hc]at z;cases z;exact hb rfl
end
structure Un (fs ex:List Addr)(H H':Hp)(h h':Heap):Prop where
 keep:∀b o,h.get? b=some o->H b=none->b∉fs->b∉ex->h'.get? b=some o
 slot:∀b o,h.get? b=some o->H b=none->b∈fs->b∉ex->∃sl,h'.get? b=some {o with slots:=sl}
 free:∀b o,h.get? b=some o->H b=none->b∉ex->H' b=none
 there:∀b o,h.get? b=some o->b∉ex->∃o',h'.get? b=some o'
 tups:∀b xs,H b=some (.tup xs)->H' b=some (.tup xs)
 frzs:∀b o u,H b=some (.frz o u)->H' b=some (.frz o u)
 tbls:∀b ps,H b=some (.tbl ps)->∃more,H' b=some (.tbl (ps++more))
noncomputable section
variable {fs fs' ex ex':List Addr}{H H1 H2:Hp}{h h1 h2 h':Heap}{a x e:Addr}{o:HO}
theorem Un.any (u:Un fs ex H H1 h h1){b:Addr}{ob:Obj}(q:h.get? b=some ob)(n:H b=none)(hx:b∉ex):∃sl,h1.get? b=some {ob with slots:=sl}:=by
 by_cases hb:b∈fs
 ·exact u.slot b ob q n hb hx
 ·exact⟨ob.slots,u.keep b ob q n hb hx⟩
theorem Un.kept (k:∀b u,h.get? b=some u->h'.get? b=some u):Un fs ex H H h h' :=
 ⟨λb ob q _ _ _=>k b ob q,λb ob q _ _ _=>⟨ob.slots,k b ob q⟩,λ_ _ _ n _=>n,λb ob q _=>⟨ob,k b ob q⟩,λ_ _ q=>q,λ_ _ _ q=>q,λ_ ps q=>⟨#[],by rw[q];simp⟩⟩
theorem Un.refl:Un fs ex H H h h:=Un.kept λ_ _ q=>q
theorem Un.laid (k:∀b u,h.get? b=some u->h'.get? b=some u)(hp:h.objs.size<=a)(hn:H a=none):Un fs ex H (upd H a o) h h' where
 keep:=λb u q _ _ _=>k b u q
 slot:=λb u q _ _ _=>⟨u.slots,k b u q⟩
 free:=λb u q n _=>by rw[Zk (Nat.ne_of_lt (Nat.lt_of_lt_of_le (Heap.lt_size q) hp))];exact n
 there:=λb u q _=>⟨u,k b u q⟩
 tups:=λb xs q=>by rw[Zk (Zm q hn)];exact q
 frzs:=λb u xs q=>by rw[Zk (Zm q hn)];exact q
 tbls:=λb ps q=>⟨#[],by rw[Zk (Zm q hn),q];simp⟩
theorem Un.write (mu:Mut (H x))(he:e=x\/H e=some (.own x))(k:∀b u,b≠e->h.get? b=some u->h'.get? b=some u)(heo:∃u,h'.get? e=some u):Un fs ex H (upd H x o) h h':=by
 have hx:∀b,H b=none->b≠x:=λb n z=>by subst z;rw[n]at mu;exact mu
 have hb:∀b,H b=none->b≠e:=λb n z=>by
  subst z
  rcases he with r | r
  ·exact hx b n r
  ·rw[n]at r;cases r
 have hm:∀b u,H b=some u->¬Mut (some u)->b≠x:=λb u q nm z=>by subst z;rw[q]at mu;exact nm mu
 refine⟨λb u q n _ _=>k b u (hb b n) q,λb u q n _ _=>⟨u.slots,k b u (hb b n) q⟩,λb u q n _=>by rw[Zk (hx b n)];exact n,λb u q _=>?_,
  λb xs q=>by rw[Zk (hm b _ q λz=>z)];exact q,λb u xs q=>by rw[Zk (hm b _ q λz=>z)];exact q,λb ps q=>⟨#[],by rw[Zk (hm b _ q λz=>z),q];simp⟩⟩
 by_cases hbe:b=e
 ·subst hbe;exact heo
 ·exact⟨u,k b u hbe q⟩
end
noncomputable def trk (h:Heap)(H:Hp):List Addr:=(List.range h.objs.size).filter λa=>(H a).isSome
noncomputable def hidT (h:Heap)(H:Hp):Heap:=PySem.W.hideAll h (trk h H)
theorem Zdr (h:Heap)(H:Hp):(hidT h H).objs.size=h.objs.size:=PySem.W.hideAll_size _ _
theorem Zgv {h:Heap}{H:Hp}{b:Addr}{o:Obj}(e:h.get? b=some o)(n:H b=none):(hidT h H).get? b=some o :=
 PySem.W.hideAll_get _ e λhm=>by
  have q:(H b).isSome=true:=(List.mem_filter.mp hm).2
  rw[n]at q;simp at q
theorem Zj0 {h:Heap}{H:Hp}{b:Addr}{o:Obj}(e:(hidT h H).get? b=some o):h.get? b=some o/\H b=none:=by
 have e':h.get? b=some o:=PySem.W.of_hideAll (trk h H) e
 refine⟨e',?_⟩
 cases q:H b with
 |none=>rfl
 |some x =>
  have hm:b∈trk h H:=List.mem_filter.mpr ⟨List.mem_range.mpr (Heap.lt_size e'),by simp[q]⟩
  have z:(hidT h H).get? b=none:=PySem.W.hideAll_none (trk h H) hm
  rw[z]at e;cases e
end L2
namespace L2
open PySem PySem.Spec PyProof.Rows
structure Mod (K:PySem.W.Frag)(mg:Str->Option Value)(base:Heap):Prop where
 kin:K.In base
 glob:base.Ns mainGlobals mg
 blt:∃mb,base.Ns builtinsNs mb/\∀x:Str,x≠"__name__"->mb x=bootBuiltins x
 nolimit:base.NoLimit
structure Cx where
 prog:Program
 w:World
 K:PySem.W.Frag
 mg:Str->Option Value
 base:Heap
 A:Around
 N:List Str
 s_0:Shared
 H_0:Hp
 env:Env
 outer:List Env
 stack:List Env
 ex:List Addr
 fn:Str->Bool
 calm:Bool
 pn:List (Addr×Obj)
 xe:Value->Shared->Prop
noncomputable def frs (l:List Env):List Addr:=l.filterMap (·.frame)
abbrev Cx.fs (X:Cx):List Addr:=frs X.outer
noncomputable def Vis (sc:Scope)(x:Str):Prop:=sc.names.lookup x=some .local\/sc.names.lookup x=some .cell\/sc.names.lookup x=some .free
noncomputable def Loc (sc:Scope)(x:Str):Prop:=sc.names.lookup x=some .local\/sc.names.lookup x=some .cell
noncomputable def Look (env:Env)(h:Heap)(m:Str->Option Value)(x:Str)(u:Value):Prop :=
 (env.kindOf x=some .local/\m x=some u)\/((env.kindOf x=some .cell\/env.kindOf x=some .free)/\∃c,env.cells.lookup x=some c/\h.IsCell c (some u))
structure Cx.Ok (X:Cx):Prop where
 mod:Mod X.K X.mg X.base
 kind:X.env.scope.kind=.function
 glob:X.env.globals=mainGlobals
 blt:X.env.builtins=builtinsNs
 above:X.s_0.heap.objs.size<=X.env.locals
 inj:∀x y c,X.env.cells.lookup x=some c->X.env.cells.lookup y=some c->x=y
 has:∀x,(X.env.kindOf x=some .cell\/X.env.kindOf x=some .free)->∃c,X.env.cells.lookup x=some c
 cab:∀x c,X.fn x=true->X.env.cells.lookup x=some c->X.s_0.heap.objs.size<=c
 hd:X.calm=true->X.A.handled=none
 frames:X.A.frames=some X.stack
 stk:X.stack=X.outer\/(X.stack=X.env::X.outer/\X.env.frame=some X.env.locals)
 exf:∀b∈X.ex,b≠X.env.locals/\∀x c,X.env.cells.lookup x=some c->c≠b
 bs:∀b o,X.base.get? b=some o->X.s_0.heap.get? b=some o/\X.H_0 b=none
 bsz:X.base.objs.size<=X.s_0.heap.objs.size
 noex:∀b o,X.base.get? b=some o->b∉X.ex
 exfs:∀b∈X.ex,b∉X.fs
 funs:X.s_0.heap.FunFrames X.base X.outer
 frf:∀b∈X.fs,X.H_0 b=none
structure Inv (X:Cx)(pins:List (Addr×Obj))(σ:List (Option V))(H:Hp)(s:Shared):Prop where
 ok:X.Ok
 os:s.os=X.s_0.os
 bare:AllBare s.gens
 base:Un X.fs X.ex X.H_0 H X.s_0.heap s.heap
 loc:∃m,s.heap.Ns X.env.locals m/\∀(i:Nat) (x:Str) (v:V),X.N[i]?=some x->σ[i]?=some (some v)->Vis X.env.scope x->∃u,RelV v u/\Look X.env s.heap m x u
 cell:∀x c,X.env.cells.lookup x=some c->∃v,s.heap.IsCell c v
 free:H X.env.locals=none
 freeC:∀x c,X.env.cells.lookup x=some c->H c=none
 pin:∀p∈X.pn++pins,s.heap.get? p.1=some p.2/\H p.1=none/\p.1≠X.env.locals/\p.1∉X.fs/\∀v,p.2.data≠.cell v
 hok:HOk X.prog X.w H s.heap
 len:σ.length=X.N.length
noncomputable section
variable {X:Cx}{pins:List (Addr×Obj)}{σ:List (Option V)}{H H':Hp}{s:Shared}{h':Heap}
theorem Cx.Ok.nofr (ok:X.Ok){b:Addr}{o:Obj}(e:X.base.get? b=some o):b∉X.fs:=λhb=>by
 have:=(ok.funs.mem hb).1
 rw[e]at this;cases this
theorem Inv.bs (I:Inv X pins σ H s):∀b o,X.base.get? b=some o->s.heap.get? b=some o/\H b=none:=λb o e =>
 ⟨I.base.keep b o (I.ok.bs b o e).1 (I.ok.bs b o e).2 (I.ok.nofr e) (I.ok.noex b o e),I.base.free b o (I.ok.bs b o e).1 (I.ok.bs b o e).2 (I.ok.noex b o e)⟩
theorem Inv.bk (I:Inv X pins σ H s):∀b o,X.base.get? b=some o->s.heap.get? b=some o:=λb o e=>(I.bs b o e).1
theorem Inv.mod (I:Inv X pins σ H s):Mod X.K X.mg X.base:=I.ok.mod
theorem Inv.kIn (I:Inv X pins σ H s):X.K.In s.heap:=I.ok.mod.kin.keeps I.bk
theorem Inv.fr (I:Inv X pins σ H s):∃m,Fr X.base X.env.locals s.heap m :=
 let ⟨m,hn,_⟩:=I.loc
 ⟨m,hn,I.bk,Nat.le_trans I.ok.bsz I.ok.above⟩
theorem Inv.lt (I:Inv X pins σ H s):X.env.locals<s.heap.objs.size:=let ⟨_,hn,_⟩:=I.loc;hn.lt
theorem Inv.sz (I:Inv X pins σ H s):X.s_0.heap.objs.size<=s.heap.objs.size:=Nat.le_trans I.ok.above (Nat.le_of_lt I.lt)
theorem Inv.nofs (I:Inv X pins σ H s){a:Addr}(h:s.heap.objs.size<=a):a∉X.fs:=λhb=>by
 obtain⟨_,o,ho,_⟩:=I.ok.funs.mem hb
 exact absurd (Nat.lt_of_lt_of_le (Heap.lt_size ho) (Nat.le_trans I.sz h)) (Nat.lt_irrefl _)
theorem Inv.cne (I:Inv X pins σ H s):∀x c,X.env.cells.lookup x=some c->c≠X.env.locals:=λx c e z=>by
 obtain⟨v,o,ho,hd⟩:=I.cell x c e
 obtain⟨m,⟨o',es,ep,ho',hd',_⟩,_⟩:=I.loc
 rw[z,ho']at ho;cases ho;rw[hd']at hd;cases hd
theorem Inv.funs (I:Inv X pins σ H s):s.heap.FunFrames X.base X.outer:=by
 have all:∀(l:List Env),(∀b∈frs l,b∈X.fs)->X.s_0.heap.FunFrames X.base l->s.heap.FunFrames X.base l:=by
  intro l
  induction l with
  |nil=>intro _ _;trivial
  |cons env r ih =>
   intro hs hl
   obtain⟨hk,⟨L,o,hf,hn,ho,hd⟩,hr⟩:=hl
   have hL:L∈X.fs:=hs L (by unfold frs;rw[List.filterMap_cons,hf];exact List.mem_cons_self)
   obtain⟨sl,e⟩:=I.base.slot L o ho (I.ok.frf L hL) hL λz=>I.ok.exfs L z hL
   exact⟨hk,⟨L,_,hf,hn,e,hd⟩,ih (λb hb=>hs b (by unfold frs;rw[List.filterMap_cons,hf];exact List.mem_cons_of_mem _ hb)) hr⟩
 exact all X.outer (λ_ hb=>hb) I.ok.funs
theorem Inv.stack (I:Inv X pins σ H s):s.heap.FunFrames X.base X.stack:=by
 rcases I.ok.stk with e | ⟨e,hf⟩
 ·rw[e];exact I.funs
 ·rw[e]
  obtain⟨m,hn,_⟩:=I.loc
  refine .cons (by rw[I.ok.kind];decide) hf hn ?_ I.funs
  exact Heap.get?_none_of_le (Nat.le_trans I.ok.bsz I.ok.above)
theorem Inv.stkSub (I:Inv X pins σ H s):∀b∈frs X.stack,b∈X.env.locals::X.fs:=λb hb=>by
 rcases I.ok.stk with e | ⟨e,hf⟩
 ·rw[e]at hb;exact List.mem_cons_of_mem _ hb
 ·rw[e]at hb
  unfold frs at hb
  rw[List.filterMap_cons,hf]at hb
  exact hb
theorem Inv.stkFree (I:Inv X pins σ H s):∀b∈frs X.stack,H b=none:=λb hb=>by
 rcases List.mem_cons.mp (I.stkSub b hb) with e | hb
 ·rw[e];exact I.free
 ·obtain⟨_,o,ho,_⟩:=I.ok.funs.mem hb
  exact I.base.free b o ho (I.ok.frf b hb) λz=>I.ok.exfs b z hb
theorem Inv.step {g':Array GenState}{t':Nat}{d':Drawn}{ch:List Addr}(I:Inv X pins σ H s)
  (hch:∀b∈ch,(b∈X.ex\/X.s_0.heap.objs.size<=b)/\b≠X.env.locals/\(∀x c,X.env.cells.lookup x=some c->c≠b)/\∀p∈X.pn++pins,p.1≠b)
  (keep:∀b o,b≠X.env.locals->b∉X.fs->b∉ch->s.heap.get? b=some o->H b=none->h'.get? b=some o)
  (slot:∀b o,b≠X.env.locals->b∈X.fs->b∉ch->s.heap.get? b=some o->H b=none->∃sl,h'.get? b=some {o with slots:=sl}) (free:∀b o,b∉ch->s.heap.get? b=some o->H b=none->H' b=none)
  (there:∀b o,b∉ch->s.heap.get? b=some o->∃o',h'.get? b=some o')
  (tups:∀b xs,H b=some (.tup xs)->H' b=some (.tup xs)) (frzs:∀b o u,H b=some (.frz o u)->H' b=some (.frz o u)) (tbls:∀b ps,H b=some (.tbl ps)->∃more,H' b=some (.tbl (ps++more)))
  (ns:∀m,s.heap.Ns X.env.locals m->h'.Ns X.env.locals m) (hok:HOk X.prog X.w H' h') (hg:AllBare g') :
  Inv X pins σ H' {s with heap:=h',gens:=g',drawn:=d',toks:=t'}:=by
 have neL:∀b o,X.s_0.heap.get? b=some o->b≠X.env.locals:=λb o e=>Nat.ne_of_lt (Nat.lt_of_lt_of_le (Heap.lt_size e) I.ok.above)
 have neC:∀b o,X.s_0.heap.get? b=some o->b∉X.ex->b∉ch:=λb o e hx hb=>by
  rcases(hch b hb).1 with z | z
  ·exact hx z
  ·exact absurd (Nat.lt_of_lt_of_le (Heap.lt_size e) z) (Nat.lt_irrefl _)
 have cellK:∀x c,X.env.cells.lookup x=some c->∀v,s.heap.IsCell c v->h'.IsCell c v:=λx c e v ⟨o,ho,hd⟩=>by
  have nch:c∉ch:=λz=>(hch c z).2.2.1 x c e rfl
  by_cases hc:c∈X.fs
  ·obtain⟨sl,q⟩:=slot c o (I.cne x c e) hc nch ho (I.freeC x c e)
   exact⟨_,q,hd⟩
  ·exact⟨o,keep c o (I.cne x c e) hc nch ho (I.freeC x c e),hd⟩
 refine⟨I.ok,I.os,hg,⟨λb o e n hb hx=>?_,λb o e n hb hx=>?_,λb o e n hx=>?_,λb o e hx=>?_,λb xs e=>tups b xs (I.base.tups b xs e),λb o xs e=>frzs b o xs (I.base.frzs b o xs e),λb ps e=>?_⟩,?_,λx c e=>?_,?_,λx c e=>?_,λp hp=>?_,hok,I.len⟩
 ·exact keep b o (neL b o e) hb (neC b o e hx) (I.base.keep b o e n hb hx) (I.base.free b o e n hx)
 ·obtain⟨sl,e1⟩:=I.base.slot b o e n hb hx
  obtain⟨sl',e2⟩:=slot b _ (neL b o e) hb (neC b o e hx) e1 (I.base.free b o e n hx)
  exact⟨sl',e2⟩
 ·obtain⟨o',e1⟩:=I.base.there b o e hx
  exact free b o' (neC b o e hx) e1 (I.base.free b o e n hx)
 ·obtain⟨o',e1⟩:=I.base.there b o e hx
  exact there b o' (neC b o e hx) e1
 ·obtain⟨m1,e1⟩:=I.base.tbls b ps e
  obtain⟨m2,e2⟩:=tbls b _ e1
  exact⟨m1++m2,by rw[e2,Array.append_assoc]⟩
 ·obtain⟨m,hn,hl⟩:=I.loc
  refine⟨m,ns m hn,λi x v e1 e2 e3=>?_⟩
  obtain⟨u,r,l⟩:=hl i x v e1 e2 e3
  refine⟨u,r,?_⟩
  rcases l with l | ⟨k,c,e,z⟩
  ·exact .inl l
  ·exact .inr ⟨k,c,e,cellK x c e _ z⟩
 ·obtain⟨v,z⟩:=I.cell x c e
  exact⟨v,cellK x c e v z⟩
 ·obtain⟨m,⟨o,_,_,ho,_⟩,_⟩:=I.loc
  exact free _ o (λz=>(hch _ z).2.1 rfl) ho I.free
 ·obtain⟨v,o,ho,hd⟩:=I.cell x c e
  exact free c o (λz=>(hch c z).2.2.1 x c e rfl) ho (I.freeC x c e)
 ·obtain⟨e,n,ne,nf,d⟩:=I.pin p hp
  have nch:p.1∉ch:=λz=>(hch p.1 z).2.2.2 p hp rfl
  exact⟨keep p.1 p.2 ne nf nch e n,free p.1 p.2 nch e n,ne,nf,d⟩
theorem Inv.un {t':Nat}(I:Inv X pins σ H s)(u:Un X.fs [] H H' s.heap h')(hok:HOk X.prog X.w H' h'):Inv X pins σ H' {s with heap:=h',toks:=t'}:=by
 obtain⟨m,⟨o,es,ep,ho,r⟩,_⟩:=id I.loc
 obtain⟨sl,hL⟩:=u.any ho I.free (by simp)
 exact I.step (g':=s.gens) (d':=s.drawn) (ch:=[]) (λ_ z=>nomatch z) (λb o _ hb _ e n=>u.keep b o e n hb (by simp)) (λb o _ hb _ e n=>u.slot b o e n hb (by simp)) (λb o _ e n=>u.free b o e n (by simp)) (λb o _ e=>u.there b o e (by simp)) u.tups u.frzs u.tbls (λm' hm=>by
  obtain⟨o',es',ep',ho',r'⟩:=hm
  rw[ho]at ho';cases ho'
  exact⟨_,es',ep',hL,r'⟩) hok I.bare
theorem Inv.call {g':Array GenState}{t':Nat}{d':Drawn}{ch:List Addr}(I:Inv X pins σ H s)(u:Un (frs X.stack) ch H H' s.heap h')(hok:HOk X.prog X.w H' h')(hg:AllBare g')
  (hch:∀b∈ch,(b∈X.ex\/X.s_0.heap.objs.size<=b)/\b≠X.env.locals/\(∀x c,X.env.cells.lookup x=some c->c≠b)/\∀p∈X.pn++pins,p.1≠b) :
  Inv X pins σ H' {s with heap:=h',gens:=g',drawn:=d',toks:=t'}:=by
 obtain⟨m,⟨o,es,ep,ho,r⟩,_⟩:=id I.loc
 obtain⟨sl,hL⟩:=u.any ho I.free λz=>(hch _ z).2.1 rfl
 exact I.step (ch:=ch) hch (λb o hL hb hc e n=>u.keep b o e n (λz=>(List.mem_cons.mp (I.stkSub b z)).elim hL hb) hc) (λb o _ _ hc e n=>u.any e n hc) (λb o hc e n=>u.free b o e n hc) (λb o hc e=>u.there b o e hc) u.tups u.frzs u.tbls (λm' hm=>by
  obtain⟨o',es',ep',ho',r'⟩:=hm
  rw[ho]at ho';cases ho'
  exact⟨_,es',ep',hL,r'⟩) hok hg
theorem Inv.turned {t':Nat}{it:Addr}(I:Inv X pins σ H s)(k:∀b o,b≠it->s.heap.get? b=some o->h'.get? b=some o)(hn:H it=none)(hL:it≠X.env.locals)
  (h1:it∈X.ex\/X.s_0.heap.objs.size<=it) (h2:∀x c,X.env.cells.lookup x=some c->c≠it) (h3:∀p∈X.pn++pins,p.1≠it):Inv X pins σ H {s with heap:=h',toks:=t'}:=by
 have nit:∀b u,H b=some u->b≠it:=λb u e z=>by rw[z,hn]at e;cases e
 refine I.step (g':=s.gens) (d':=s.drawn) (ch:=[it]) (λb hb=>?_) (λb o _ _ hc e _=>k b o (λz=>hc (by simp[z])) e) (λb o _ _ hc e _=>⟨o.slots,k b o (λz=>hc (by simp[z])) e⟩) (λ_ _ _ _ n=>n)
  (λb o hc e=>⟨o,k b o (λz=>hc (by simp[z])) e⟩) (λ_ _ e=>e) (λ_ _ _ e=>e) (λb ps e=>⟨#[],by rw[e];simp⟩) (λm hm=>?_) (λb u e=>?_) I.bare
 ·have e:b=it:=by simpa using hb
  subst e
  exact⟨h1,hL,h2,h3⟩
 ·obtain⟨o,es,ep,ho,r⟩:=hm
  exact⟨o,es,ep,k _ o (Ne.symm hL) ho,r⟩
 ·refine(I.hok b u e).stay (λc v hc q=>k c v ?_ q) (λ_ q=>q) λ_ _ q=>q
  rcases hc with z | z
  ·rw[z];exact nit b u e
  ·exact nit c _ z
theorem Inv.tok (I:Inv X pins σ H s)(t:Nat):Inv X pins σ H {s with toks:=t}:=I.un (h':=s.heap) (t':=t) Un.refl I.hok
theorem Inv.kept {t':Nat}(I:Inv X pins σ H s)(k:∀b u,s.heap.get? b=some u->h'.get? b=some u):Inv X pins σ H {s with heap:=h',toks:=t'}:=I.un (Un.kept k) (I.hok.kept k)
theorem Inv.laid {a:Addr}{o:HO}{t':Nat}(I:Inv X pins σ H s)(k:∀b u,s.heap.get? b=some u->h'.get? b=some u)(hp:s.heap.objs.size<=a)(new:ObjOk X.prog X.w (upd H a o) h' a o) :
  Inv X pins σ (upd H a o) {s with heap:=h',toks:=t'}:=I.un (Un.laid k hp (I.hok.fresh hp)) (I.hok.laid k hp new)
theorem Inv.write {x e:Addr}{o:HO}{t':Nat}(I:Inv X pins σ H s)(mu:Mut (H x))(he:e=x\/H e=some (.own x))(k:∀b u,b≠e->s.heap.get? b=some u->h'.get? b=some u)(heo:∃u,h'.get? e=some u)
  (new:ObjOk X.prog X.w (upd H x o) h' x o):Inv X pins σ (upd H x o) {s with heap:=h',toks:=t'}:=I.un (Un.write mu he k heo) (I.hok.write mu he k heo new)
theorem Inv.weak {σ':List (Option V)}(I:Inv X pins σ H s)(hl:σ'.length=σ.length)(w:∀(i:Nat) v,σ'[i]?=some (some v)->σ[i]?=some (some v)):Inv X pins σ' H s :=
 ⟨I.ok,I.os,I.bare,I.base,let ⟨m,hn,hl'⟩:=I.loc;⟨m,hn,λi x v e1 e2 e3=>hl' i x v e1 (w i v e2) e3⟩,I.cell,I.free,I.freeC,I.pin,I.hok,hl.trans I.len⟩
theorem Inv.pins_of {pins':List (Addr×Obj)}(I:Inv X pins σ H s)(h:∀p∈pins',s.heap.get? p.1=some p.2/\H p.1=none/\p.1≠X.env.locals/\p.1∉X.fs/\∀v,p.2.data≠.cell v):Inv X pins' σ H s :=
 ⟨I.ok,I.os,I.bare,I.base,I.loc,I.cell,I.free,I.freeC,λp hp=>(List.mem_append.mp hp).elim (λz=>I.pin p (List.mem_append_left _ z)) (h p),I.hok,I.len⟩
theorem Z3r {N:List Str}(hN:N.Nodup){i j:Nat}{x:Str}(a:N[i]?=some x)(b:N[j]?=some x):i=j:=by
 obtain⟨h1,e1⟩:=List.getElem?_eq_some_iff.mp a
 obtain⟨h2,e2⟩:=List.getElem?_eq_some_iff.mp b
 exact(List.getElem_inj hN).mp (e1.trans e2.symm)
theorem Z6g {M:Model}{A:Around}{E:Value->Shared->Prop}{i:Nat}{x:Str}{v:V}{u:Value}{Q:Unit->Shared->Prop}(I:Inv X pins σ H s)(hN:X.N.Nodup)(hi:X.N[i]?=some x)(hx:Loc X.env.scope x)(r:RelV v u)
  (h:∀s',Inv X pins (σ.set i (some v)) H s'->(∃a,Heap.SameBut a s.heap s'.heap/\(a=X.env.locals\/X.env.cells.lookup x=some a))->Q () s') (hf:X.fn x=true\/X.env.scope.names.lookup x=some .local:=by first | exact .inl rfl | exact .inr rfl | assumption):wpAny M A (storeName X.env x u) Q E s:=by
 obtain⟨m,hn,hl⟩:=id I.loc
 have hcls:(X.env.scope.kind==.class||(X.env.scope.kind==.module&&X.env.locals != X.env.globals))=false:=by rw[I.ok.kind];rfl
 have hiσ:i<σ.length:=by rw[I.len];exact(List.getElem?_eq_some_iff.mp hi).1
 have cne:=I.cne
 have tracked:∀{a:Addr} {h':Heap},(∃o,s.heap.get? a=some o/\H a=none)->Heap.SameBut a s.heap h'->HOk X.prog X.w H h':=λ{a h'} ha hs b ob e=>by
  obtain⟨_,_,hfree⟩:=ha
  refine(I.hok b ob e).stay (λc w' hc q=>(hs.2 c ?_).trans q) (λ_ q=>q) λ_ _ q=>q
  rintro rfl
  rcases hc with rfl | hc
  ·rw[hfree]at e;cases e
  ·rw[hfree]at hc;cases hc
 rcases hx with hk | hk
 ·refine wpAny_storeName_local hk hn (λh' hn' hs=>?_) hcls
  obtain⟨oL,_,_,hoL,_⟩:=id hn
  refine h _ ⟨I.ok,I.os,I.bare,⟨λb o e n hb hx=>?_,λb o e n hb hx=>?_,I.base.free,λb o e hx=>?_,I.base.tups,I.base.frzs,I.base.tbls⟩,⟨_,hn',λj y v' e1 e2 e3=>?_⟩,λy c e=>?_,I.free,I.freeC,λp hp=>?_,tracked ⟨oL,hoL,I.free⟩ hs,by simpa using I.len⟩ ⟨_,hs,.inl rfl⟩
  ·exact(hs.2 b (Nat.ne_of_lt (Nat.lt_of_lt_of_le (Heap.lt_size e) I.ok.above))).trans (I.base.keep b o e n hb hx)
  ·obtain⟨sl,e1⟩:=I.base.slot b o e n hb hx
   exact⟨sl,(hs.2 b (Nat.ne_of_lt (Nat.lt_of_lt_of_le (Heap.lt_size e) I.ok.above))).trans e1⟩
  ·obtain⟨o',e1⟩:=I.base.there b o e hx
   exact⟨o',(hs.2 b (Nat.ne_of_lt (Nat.lt_of_lt_of_le (Heap.lt_size e) I.ok.above))).trans e1⟩
  ·by_cases hj:j=i
   ·subst hj
    rw[hi]at e1;cases e1
    rw[List.getElem?_set_self hiσ]at e2
    cases e2
    exact⟨u,r,.inl ⟨hk,by simp⟩⟩
   ·rw[List.getElem?_set_ne (Ne.symm hj)]at e2
    obtain⟨u',r',q⟩:=hl j y v' e1 e2 e3
    refine⟨u',r',?_⟩
    rcases q with⟨k,e⟩ | ⟨k,c,e,z⟩
    ·refine .inl ⟨k,?_⟩
     have:y≠x:=λe=>hj (Z3r hN e1 (e▸hi))
     simp[this,e]
    ·exact .inr ⟨k,c,e,z.sameBut hs (cne y c e)⟩
  ·obtain⟨w',z⟩:=I.cell y c e
   exact⟨w',z.sameBut hs (cne y c e)⟩
  ·obtain⟨e,n,ne,nf,d⟩:=I.pin p hp
   exact⟨(hs.2 p.1 ne).trans e,n,ne,nf,d⟩
 ·have hfn:X.fn x=true:=by
   rcases hf with z | z
   ·exact z
   ·rw[z]at hk;cases hk
  obtain⟨c,hc⟩:=I.ok.has x (.inl hk)
  obtain⟨w',z⟩:=I.cell x c hc
  refine wpAny_storeName_cell I.ok.kind hk hc z (λh' hc' hs=>?_)
  obtain⟨oc,hoc,hocd⟩:=id z
  refine h {s with heap:=h'} ⟨I.ok,I.os,I.bare,⟨λb o e n hb hx=>?_,λb o e n hb hx=>?_,I.base.free,λb o e hx=>?_,I.base.tups,I.base.frzs,I.base.tbls⟩,⟨m,hn.sameBut hs (Ne.symm (cne x c hc)),λj y v' e1 e2 e3=>?_⟩,λy c' e=>?_,I.free,I.freeC,λp hp=>?_,tracked ⟨oc,hoc,I.freeC x c hc⟩ hs,by simpa using I.len⟩ ⟨c,hs,.inr hc⟩
  ·exact(hs.2 b (Nat.ne_of_lt (Nat.lt_of_lt_of_le (Heap.lt_size e) (I.ok.cab x c hfn hc)))).trans (I.base.keep b o e n hb hx)
  ·obtain⟨sl,e1⟩:=I.base.slot b o e n hb hx
   exact⟨sl,(hs.2 b (Nat.ne_of_lt (Nat.lt_of_lt_of_le (Heap.lt_size e) (I.ok.cab x c hfn hc)))).trans e1⟩
  ·obtain⟨o',e1⟩:=I.base.there b o e hx
   exact⟨o',(hs.2 b (Nat.ne_of_lt (Nat.lt_of_lt_of_le (Heap.lt_size e) (I.ok.cab x c hfn hc)))).trans e1⟩
  ·by_cases hj:j=i
   ·subst hj
    rw[hi]at e1;cases e1
    rw[List.getElem?_set_self hiσ]at e2
    cases e2
    exact⟨u,r,.inr ⟨.inl hk,c,hc,hc'⟩⟩
   ·rw[List.getElem?_set_ne (Ne.symm hj)]at e2
    obtain⟨u',r',q⟩:=hl j y v' e1 e2 e3
    refine⟨u',r',?_⟩
    rcases q with q | ⟨k,c',e,z'⟩
    ·exact .inl q
    ·refine .inr ⟨k,c',e,z'.sameBut hs ?_⟩
     rintro rfl
     exact hj (Z3r hN e1 (I.ok.inj _ _ _ e hc▸hi))
  ·by_cases hcc:c'=c
   ·subst hcc;exact⟨_,hc'⟩
   ·obtain⟨w2,z2⟩:=I.cell y c' e
    exact⟨w2,z2.sameBut hs hcc⟩
  ·obtain⟨e,n,ne,nf,d⟩:=I.pin p hp
   refine⟨(hs.2 p.1 ?_).trans e,n,ne,nf,d⟩
   intro q
   rw[q,hoc]at e
   have q':oc=p.2:=Option.some.inj e
   exact d w' (by rw[<-q'];exact hocd)
theorem Zax {M:Model}{A:Around}{E:Value->Shared->Prop}{i:Nat}{x:Str}{v:V}{u:Value}{Q:Unit->Shared->Prop}(I:Inv X pins σ H s)(hN:X.N.Nodup)(hi:X.N[i]?=some x)(hx:Loc X.env.scope x)(r:RelV v u)
  (h:∀s',Inv X pins (σ.set i (some v)) H s'->Q () s') (hf:X.fn x=true\/X.env.scope.names.lookup x=some .local:=by first | exact .inl rfl | exact .inr rfl | assumption):wpAny M A (storeName X.env x u) Q E s :=
 Z6g I hN hi hx r (λs' I' _=>h s' I') hf
theorem Inv.call' {s':Shared}{ch:List Addr}(I:Inv X pins σ H s)(ho:s'.os=s.os)(u:Un (frs X.stack) ch H H' s.heap s'.heap)(hok:HOk X.prog X.w H' s'.heap)(hg:AllBare s'.gens)
  (hch:∀b∈ch,(b∈X.ex\/X.s_0.heap.objs.size<=b)/\b≠X.env.locals/\(∀x c,X.env.cells.lookup x=some c->c≠b)/\∀p∈X.pn++pins,p.1≠b):Inv X pins σ H' s':=by
 obtain⟨h',g',d',t',o'⟩:=s'
 have e:o'=s.os:=ho
 subst e
 exact I.call (g':=g') (t':=t') (d':=d') u hok hg hch
end
abbrev XK:=Value->Option Addr->Hp->Prop
abbrev St:=List (Option V)
abbrev VK:=V->Hp->Prop
abbrev TE:=St->Hp->VK->Prop
abbrev TT:=St->Hp->(Bool->Hp->Prop)->Prop
abbrev TA:=St->Hp->(List V->Hp->Prop)->Prop
structure Ends where
 nx:St->Hp->Prop
 rt:VK
 bk:St->Hp->Prop:=λ_ _=>False
 ct:St->Hp->Prop:=λ_ _=>False
abbrev TS:=Ends->St->Hp->Prop
noncomputable def EP (X:Cx)(pins:List (Addr×Obj))(σ:St)(Q:VK)(u:Value)(s':Shared):Prop:=∃v H',Inv X pins σ H' s'/\RelV v u/\Q v H'
noncomputable def TP (X:Cx)(pins:List (Addr×Obj))(σ:St)(Q:Bool->Hp->Prop)(b:Bool)(s':Shared):Prop:=∃H',Inv X pins σ H' s'/\Q b H'
noncomputable def AP (X:Cx)(pins:List (Addr×Obj))(σ:St)(Q:List V->Hp->Prop)(us:List Value)(s':Shared):Prop:=∃vs H',Inv X pins σ H' s'/\Vals vs us/\Q vs H'
noncomputable def SP (X:Cx)(pins:List (Addr×Obj))(D:Ends)(f:Flow)(s':Shared):Prop :=
 match f with
 |.next=>∃σ' H',Inv X pins σ' H' s'/\D.nx σ' H'
 |.brk=>∃σ' H',Inv X pins σ' H' s'/\D.bk σ' H'
 |.cont=>∃σ' H',Inv X pins σ' H' s'/\D.ct σ' H'
 |.ret u=>∃v σ' H',Inv X pins σ' H' s'/\RelV v u/\D.rt v H'
noncomputable def PE (X:Cx)(e:Expr)(t:TE):Prop :=
 ∀(pins:List (Addr×Obj)) (s:Shared) (σ:St) (H:Hp) (Q:VK),Inv X pins σ H s->t σ H Q->wpAny (model X.prog X.w) X.A (eval e X.env) (EP X pins σ Q) X.xe s
noncomputable def PT (X:Cx)(e:Expr)(t:TT):Prop :=
 ∀(pins:List (Addr×Obj)) (s:Shared) (σ:St) (H:Hp) (Q:Bool->Hp->Prop),Inv X pins σ H s->t σ H Q->wpAny (model X.prog X.w) X.A (isTrue e X.env (eval e X.env)) (TP X pins σ Q) X.xe s
noncomputable def PW (X:Cx)(e:Expr)(t:TT):Prop :=
 ∀(whole:Sem Value) (pins:List (Addr×Obj)) (s:Shared) (σ:St) (H:Hp) (Q:Bool->Hp->Prop),Inv X pins σ H s->t σ H Q->wpAny (model X.prog X.w) X.A (isTrue e X.env whole) (TP X pins σ Q) X.xe s
theorem PW.pt {X:Cx}{e:Expr}{t:TT}(h:PW X e t):PT X e t:=h _
noncomputable def PA (X:Cx)(es:List Expr)(t:TA):Prop :=
 ∀(pos:Pos) (pins:List (Addr×Obj)) (s:Shared) (σ:St) (H:Hp) (Q:List V->Hp->Prop),Inv X pins σ H s->t σ H Q->wpAny (model X.prog X.w) X.A (spliced (backTo pos (starEach es X.env))) (AP X pins σ Q) X.xe s
noncomputable def PS (X:Cx)(st:Stmt)(t:TS):Prop :=
 ∀(pins:List (Addr×Obj)) (s:Shared) (σ:St) (H:Hp) (D:Ends),Inv X pins σ H s->t D σ H->wpAny (model X.prog X.w) X.A (exec st X.env) (SP X pins D) X.xe s
noncomputable def PSs (X:Cx)(st:List Stmt)(t:TS):Prop :=
 ∀(pins:List (Addr×Obj)) (s:Shared) (σ:St) (H:Hp) (D:Ends),Inv X pins σ H s->t D σ H->wpAny (model X.prog X.w) X.A (execs st X.env) (SP X pins D) X.xe s
theorem thn {α:Type}{t:Sem α}{Q Q':α->Shared->Prop}{M:Model}{A:Around}{E:Value->Shared->Prop}{s:Shared}(h:wpAny M A t Q E s)(hQ:∀a s,Q a s->Q' a s):wpAny M A t Q' E s:=wpAny_mono h hQ λ_ _ x=>x
end L2
namespace L2
open PySem PySem.Spec PyProof.Rows
noncomputable section
variable {X:Cx}
theorem bin {a b:Expr}{ta tb:TE}(ha:PE X a ta)(hb:PE X b tb){pins:List (Addr×Obj)}{s:Shared}{σ:St}{H:Hp}{R:V->V->Hp->Prop}(I:Inv X pins σ H s)(h:ta σ H λx H1=>tb σ H1 λy H2=>R x y H2)
  {α:Type} {Q:α->Shared->Prop} {f:Value->Value->Sem α}
  (hf:∀v u s2 x y H2,Inv X pins σ H2 s2->RelV x v->RelV y u->R x y H2->wpAny (model X.prog X.w) X.A (f v u) Q X.xe s2) :
  wpAny (model X.prog X.w) X.A (eval a X.env) (λv s₁=>wpAny (model X.prog X.w) X.A (eval b X.env) (λu s₂=>wpAny (model X.prog X.w) X.A (f v u) Q X.xe s₂) X.xe s₁) X.xe s:=by
 refine thn (ha pins s σ H _ I h) λv s1 ⟨x,H1,I1,r1,q1⟩=>?_
 refine thn (hb pins s1 σ H1 _ I1 q1) λu s2 ⟨y,H2,I2,r2,q2⟩=>?_
 exact hf v u s2 x y H2 I2 r1 r2 q2
noncomputable def tVar (i:Nat):TE:=λσ H Q=>∃v,σ[i]?=some (some v)/\Q v H
noncomputable def tC (v:V):TE:=λ_ H Q=>Q v H
theorem Zkd {i:Nat}{x:Str}{pos:Pos}(hN:X.N[i]?=some x)(hv:Vis X.env.scope x)(hd:(x==("__debug__":Str))=false:=by decide)(hcd:(x==("__classdict__":Str))=false:=by decide):PE X (.Name x pos) (tVar i):=by
 intro pins s σ H Q I h
 obtain⟨v,e,h⟩:=h
 obtain⟨m,hn,hl⟩:=I.loc
 obtain⟨u,r,l⟩:=hl i x v hN e hv
 have fin:EP X pins σ Q u s:=⟨v,H,I,r,h⟩
 rcases l with⟨hk,hm⟩ | ⟨hk,c,hc,hcell⟩
 ·exact wpAny_Name (wpAny_loadName_local I.ok.kind hk hn hm fin) hd
 ·rcases hk with hk | hk
  ·exact wpAny_Name (wpAny_loadName_cell I.ok.kind hk hc hcell fin) hd
  ·exact wpAny_Name (wpAny_loadName_free I.ok.kind hk hc hcell fin hcd) hd
theorem Zn {i j pos}:PE X (.Constant (.int i) j pos) (tC (.int i)):=λ_ _ _ H _ I h=>wpAny_Constant_int ⟨.int i,H,I.tok _,⟨_,rfl⟩,h⟩
theorem Zcb {b j pos}:PE X (.Constant (.bool b) j pos) (tC (.bl b)):=λ_ _ _ H _ I h=>Constant_bool ⟨.bl b,H,I,rfl,h⟩
theorem Yb {j pos}:PE X (.Constant .none j pos) (tC .non):=λ_ _ _ H _ I h=>Constant_none ⟨.non,H,I,rfl,h⟩
noncomputable def Gl (X:Cx)(x:Str):Prop:=X.env.kindOf x=some .globalImplicit
theorem Z3s {E:Value->Shared->Prop}{pins:List (Addr×Obj)}{s:Shared}{σ:St}{H:Hp}{x:Str}{u:Value}{pos:Pos}{Q:Value->Shared->Prop}(I:Inv X pins σ H s)(hg:Gl X x)(hm:X.mg x=some u)(h:Q u s)
  (hd:(x==("__debug__":Str))=false:=by decide):wpAny (model X.prog X.w) X.A (eval (.Name x pos) X.env) Q E s :=
 Calls.Name_function_global I.ok.kind hg (Calls.loadGlobal_global (by rw[I.ok.glob];exact I.mod.glob.keeps I.bk) hm h) hd
theorem Td {E:Value->Shared->Prop}{pins:List (Addr×Obj)}{s:Shared}{σ:St}{H:Hp}{x:Str}{u:Value}{pos:Pos}{Q:Value->Shared->Prop}(I:Inv X pins σ H s)(hg:Gl X x)(hm:X.mg x=none)(hv:bootBuiltins x=some u)(h:Q u s)
  (hn:x≠"__name__":=by decide) (hd:(x==("__debug__":Str))=false:=by decide):wpAny (model X.prog X.w) X.A (eval (.Name x pos) X.env) Q E s:=by
 obtain⟨mb,h1,h2⟩:=I.mod.blt
 exact Calls.Name_function_global I.ok.kind hg (Calls.loadGlobal_builtin (by rw[I.ok.glob];exact I.mod.glob.keeps I.bk) hm (by rw[I.ok.blt];exact h1.keeps I.bk) ((h2 x hn).trans hv) h) hd
theorem Zt {x:Str}{v:V}{u:Value}{pos:Pos}(hg:Gl X x)(hm:X.mg x=some u)(r:RelV v u)(hd:(x==("__debug__":Str))=false:=by decide):PE X (.Name x pos) (tC v) :=
 λ_ _ _ H _ I h=>Z3s I hg hm ⟨v,H,I,r,h⟩ hd
variable {a b:Expr}{ta tb:TE}{pos:Pos}
noncomputable def PC (X:Cx)(op:CmpOp)(a b:Expr)(t:TE):Prop :=
 ∀(pins:List (Addr×Obj)) (s:Shared) (σ:St) (H:Hp) (Q:VK),Inv X pins σ H s->t σ H Q->
  wpAny (model X.prog X.w) X.A (eval a X.env) (λv s₁=>wpAny (model X.prog X.w) X.A (eval b X.env) (λu s₂=>wpAny (model X.prog X.w) X.A (compareOp op v u) (EP X pins σ Q) X.xe s₂) X.xe s₁) X.xe s
noncomputable def tB (t:TE):TT:=λσ H Q=>t σ H λx H1=>∃c,x=.bl c/\Q c H1
theorem Zi7 {op:CmpOp}{t:TE}(h:PC X op a b t)(h1:behindInMarks op b=false:=by first | exact nobehind _ (by decide) (by decide) | rfl):PE X (.Compare a [op] [b] pos) t:=λpins s σ H Q I hw=>wpAny_Compare1 (h pins s σ H Q I hw) h1
theorem Zds {op:CmpOp}{t:TE}(h:PC X op a b t)(h1:behindInMarks op b=false:=by first | exact nobehind _ (by decide) (by decide) | rfl):PT X (.Compare a [op] [b] pos) (tB t):=by
 intro pins s σ H Q I hw
 refine wpAny_isTrue_Compare1 (thn (h pins s σ H _ I hw) λv s1 h1=>thn h1 λu s2 h2=>thn h2 λc s3 ⟨x,H1,I1,r1,q1⟩=>?_) h1
 obtain⟨d,rfl,q⟩:=q1
 cases r1
 exact wpAny_truthy_bool ⟨H1,I1,q⟩
theorem Xf {e:Expr}{t:TE}(h:PE X e t)(he:∀whole,isTrue e X.env whole=(do let v<-whole;standAt e.pos;holding [v] (truthy v)):=by intro _;rfl):PT X e (tB t):=by
 intro pins s σ H Q I hw
 refine isTrue_plain (thn (h pins s σ H _ I hw) λv s1 ⟨x,H1,I1,r1,q1⟩=>?_) (he _)
 obtain⟨d,rfl,q⟩:=q1
 cases r1
 exact wpAny_truthy_bool ⟨H1,I1,q⟩
variable {tA tB':TT}{rest:List Expr}
noncomputable def tAnd (t u:TT):TT:=λσ H Q=>t σ H λc H1=>if c=true then u σ H1 Q else Q false H1
noncomputable def tOr (t u:TT):TT:=λσ H Q=>t σ H λc H1=>if c=true then Q true H1 else u σ H1 Q
noncomputable def tNot (t:TT):TT:=λσ H Q=>t σ H λc H1=>Q (!c) H1
theorem Zdt (ha:PT X a tA):PW X (.BoolOp .And [a] pos) tA:=by
 intro wh pins s σ H Q I h
 refine isTrue_and (thn (ha pins s σ H Q I h) λc s1 e=>?_)
 cases c with
 |true=>exact isTrue_and_nil e
 |false=>exact e
theorem Pa (ha:PT X a tA):PW X (.BoolOp .Or [a] pos) tA:=by
 intro wh pins s σ H Q I h
 refine isTrue_or (thn (ha pins s σ H Q I h) λc s1 e=>?_)
 cases c with
 |false=>exact isTrue_or_nil e
 |true=>exact e
theorem Zi8 (ha:PT X a tA)(hb:PW X (.BoolOp .And (b::rest) pos) tB'):PW X (.BoolOp .And (a::b::rest) pos) (tAnd tA tB'):=by
 intro wh pins s σ H Q I h
 refine isTrue_and (thn (ha pins s σ H _ I h) λc s1 ⟨H1,I1,q1⟩=>?_)
 cases c with
 |true=>exact hb wh pins s1 σ H1 Q I1 q1
 |false=>exact⟨H1,I1,q1⟩
theorem Jm (ha:PT X a tA)(hb:PW X (.BoolOp .Or (b::rest) pos) tB'):PW X (.BoolOp .Or (a::b::rest) pos) (tOr tA tB'):=by
 intro wh pins s σ H Q I h
 refine isTrue_or (thn (ha pins s σ H _ I h) λc s1 ⟨H1,I1,q1⟩=>?_)
 cases c with
 |true=>exact⟨H1,I1,q1⟩
 |false=>exact hb wh pins s1 σ H1 Q I1 q1
theorem Wh (ha:PT X a tA):PT X (.UnaryOp .Not a pos) (tNot tA):=by
 intro pins s σ H Q I h
 exact isTrue_not (ha pins s σ H (λc H1=>Q (!c) H1) I h)
noncomputable def Zke (ta tb:TE):TE:=λσ H Q=>ta σ H λx H1=>∃c,x=.bl c/\if c=true then tb σ H1 Q else Q (.bl false) H1
noncomputable def tOrV (ta tb:TE):TE:=λσ H Q=>ta σ H λx H1=>∃c,x=.bl c/\if c=true then Q (.bl true) H1 else tb σ H1 Q
noncomputable def Zlj (ta:TE):TE:=λσ H Q=>ta σ H λx H1=>∃c,x=.bl c/\Q (.bl (!c)) H1
theorem Jn {op}{t:TE}(h:PE X a t):PE X (.BoolOp op [a] pos) t:=λpins s σ H Q I hw=>BoolOp_one (h pins s σ H Q I hw)
theorem Zay (ha:PE X a ta)(hb:PE X (.BoolOp .And (b::rest) pos) tb):PE X (.BoolOp .And (a::b::rest) pos) (Zke ta tb):=by
 intro pins s σ H Q I h
 refine BoolOp_and (thn (ha pins s σ H _ I h) λv s1 ⟨x,H1,I1,r1,q1⟩=>?_)
 obtain⟨c,rfl,q1⟩:=q1
 cases r1
 refine wpAny_truthy_bool ?_
 cases c with
 |true=>exact hb pins s1 σ H1 Q I1 q1
 |false=>exact⟨.bl false,H1,I1,rfl,q1⟩
theorem Zgw (ha:PE X a ta)(hb:PE X (.BoolOp .Or (b::rest) pos) tb):PE X (.BoolOp .Or (a::b::rest) pos) (tOrV ta tb):=by
 intro pins s σ H Q I h
 refine BoolOp_or (thn (ha pins s σ H _ I h) λv s1 ⟨x,H1,I1,r1,q1⟩=>?_)
 obtain⟨c,rfl,q1⟩:=q1
 cases r1
 refine wpAny_truthy_bool ?_
 cases c with
 |false=>exact hb pins s1 σ H1 Q I1 q1
 |true=>exact⟨.bl true,H1,I1,rfl,q1⟩
theorem Zi9 (ha:PE X a ta):PE X (.UnaryOp .Not a pos) (Zlj ta):=by
 intro pins s σ H Q I h
 refine UnaryOp_ (thn (ha pins s σ H _ I h) λv s1 ⟨x,H1,I1,r1,q1⟩=>?_)
 obtain⟨c,rfl,q1⟩:=q1
 cases r1
 exact not_of (wpAny_truthy_bool ⟨.bl (!c),H1,I1,rfl,q1⟩)
noncomputable def tIf (t:TT)(ta tb:TE):TE:=λσ H Q=>t σ H λc H1=>if c=true then ta σ H1 Q else tb σ H1 Q
theorem Wg {c:Expr}(hc:PT X c tA)(ha:PE X a ta)(hb:PE X b tb):PE X (.IfExp c a b pos) (tIf tA ta tb):=by
 intro pins s σ H Q I h
 refine wpAny_IfExp (thn (hc pins s σ H _ I h) λd s1 ⟨H1,I1,q1⟩=>?_)
 cases d with
 |true=>exact ha pins s1 σ H1 Q I1 q1
 |false=>exact hb pins s1 σ H1 Q I1 q1
end
end L2
namespace L2
open PySem PySem.Spec PyProof.Rows
noncomputable def SqL (K:PySem.W.Frag)(H:Hp)(a:Addr)(xs:List V):Prop :=
 Rd H a (.lst xs)\/
  ∃(o:Obj) (its:Array Value) (n:Nat),K.lookup a=some o/\o.cls=.type "list"/\o.dict=none/\o.data=.seq its n/\its.size<=sizeLine/\Vals xs its.toList
noncomputable def SqT (K:PySem.W.Frag)(H:Hp)(a:Addr)(xs:List V):Prop :=
 Rd H a (.tup xs)\/
  ∃(o:Obj) (its:Array Value) (n:Nat),K.lookup a=some o/\o.cls=.type "tuple"/\o.data=.seq its n/\its.size<=sizeLine/\Vals xs its.toList
noncomputable def absV:Value->Option V
 |.none=>some .non
 |.bool b=>some (.bl b)
 |.int i _=>some (.int i)
 |.str x _=>some (.str x)
 |.bytes b _=>some (.byt b)
 |.float b _=>some (.flt b)
 |.ref a=>some (.ref a)
 |.type n=>some (.ty n)
 |_=>none
theorem RelV.abs {x:V}{u:Value}(r:RelV x u):absV u=some x:=by
 cases x with
 |non=>cases r;rfl
 |bl _=>cases r;rfl
 |int _=>obtain⟨t,rfl⟩:=r;rfl
 |str _=>obtain⟨t,rfl⟩:=r;rfl
 |byt _=>obtain⟨t,rfl⟩:=r;rfl
 |flt _=>obtain⟨t,rfl⟩:=r;rfl
 |ref _=>cases r;rfl
 |ty _=>cases r;rfl
theorem RelV.inj {x y:V}{u:Value}(r:RelV x u)(q:RelV y u):x=y:=Option.some.inj (r.abs.symm.trans q.abs)
theorem Vals.inj:∀{xs ys:List V} {us:List Value},Vals xs us->Vals ys us->xs=ys
 |_,_,_,.nil,.nil=>rfl
 |_,_,_,.cons r t,.cons r' t'=>by rw[r.inj r',Vals.inj t t']
noncomputable section
variable {X:Cx}{pins:List (Addr×Obj)}{σ:St}{H:Hp}{s:Shared}{a:Addr}{xs ys:List V}
theorem SqL.of {K:PySem.W.Frag}(h:H a=some (.lst xs)):SqL K H a xs:=.inl (.inl h)
theorem SqT.of {K:PySem.W.Frag}(h:H a=some (.tup xs)):SqT K H a xs:=.inl (.inl h)
theorem Inv.list (I:Inv X pins σ H s)(h:SqL X.K H a xs):∃its:List Value,Vals xs its/\PlainL s.heap a its.toArray/\xs.length<=sizeLine:=by
 rcases h with h | ⟨o,its,n,hk,hc,hd,hs,hz,r⟩
 ·obtain⟨z,its,n,r,e⟩:=h.ok I.hok
  exact⟨its,r,⟨_,n,e,rfl,rfl,rfl⟩,z⟩
 ·refine⟨its.toList,r,⟨o,n,I.kIn a o hk,hc,hd,by simpa using hs⟩,?_⟩
  have e:=r.length
  simp only[Array.length_toList]at e
  omega
theorem Inv.tuple (I:Inv X pins σ H s)(h:SqT X.K H a xs):∃its:List Value,Vals xs its/\IsTup s.heap a its.toArray/\xs.length<=sizeLine:=by
 rcases h with h | ⟨o,its,n,hk,hc,hs,hz,r⟩
 ·obtain⟨z,its,r,p⟩:=h.ok I.hok
  exact⟨its,r,p,z⟩
 ·refine⟨its.toList,r,⟨o,I.kIn a o hk,hc,n,by simpa using hs⟩,?_⟩
  have e:=r.length
  simp only[Array.length_toList]at e
  omega
theorem Inv.list_inj (I:Inv X pins σ H s)(h:SqL X.K H a xs)(h':SqL X.K H a ys):xs=ys:=by
 obtain⟨its,r,⟨o,n,e,_,_,d⟩,_⟩:=I.list h
 obtain⟨its',r',⟨o',n',e',_,_,d'⟩,_⟩:=I.list h'
 rw[e]at e';cases e'
 rw[d]at d'
 injection d' with d1 _
 have:its=its':=by simpa using congrArg Array.toList d1
 subst this
 exact r.inj r'
theorem Inv.tuple_inj (I:Inv X pins σ H s)(h:SqT X.K H a xs)(h':SqT X.K H a ys):xs=ys:=by
 obtain⟨its,r,⟨o,e,_,n,d⟩,_⟩:=I.tuple h
 obtain⟨its',r',⟨o',e',_,n',d'⟩,_⟩:=I.tuple h'
 rw[e]at e';cases e'
 rw[d]at d'
 injection d' with d1 _
 have:its=its':=by simpa using congrArg Array.toList d1
 subst this
 exact r.inj r'
end
abbrev Cx.wish (X:Cx)(E:Value->Shared->Prop):Cx:={X with xe:=E}
abbrev Cx.nox (X:Cx):Cx:=X.wish λ_ _=>False
theorem Cx.Ok.wish {X:Cx}(ok:X.Ok)(E:Value->Shared->Prop):(X.wish E).Ok :=
 ⟨ok.mod,ok.kind,ok.glob,ok.blt,ok.above,ok.inj,ok.has,ok.cab,ok.hd,ok.frames,ok.stk,ok.exf,ok.bs,ok.bsz,ok.noex,ok.exfs,ok.funs,ok.frf⟩
theorem Cx.Ok.unwish {X:Cx}{E:Value->Shared->Prop}(ok:(X.wish E).Ok):X.Ok :=
 ⟨ok.mod,ok.kind,ok.glob,ok.blt,ok.above,ok.inj,ok.has,ok.cab,ok.hd,ok.frames,ok.stk,ok.exf,ok.bs,ok.bsz,ok.noex,ok.exfs,ok.funs,ok.frf⟩
noncomputable section
variable {X:Cx}{pins:List (Addr×Obj)}{σ:St}{H:Hp}{s:Shared}{E:Value->Shared->Prop}
theorem Inv.wish (I:Inv X pins σ H s)(E:Value->Shared->Prop):Inv (X.wish E) pins σ H s:=⟨I.ok.wish E,I.os,I.bare,I.base,I.loc,I.cell,I.free,I.freeC,I.pin,I.hok,I.len⟩
theorem Inv.unwish (I:Inv (X.wish E) pins σ H s):Inv X pins σ H s:=⟨I.ok.unwish,I.os,I.bare,I.base,I.loc,I.cell,I.free,I.freeC,I.pin,I.hok,I.len⟩
theorem SP.unwish {D:Ends}{f:Flow}{s':Shared}(h:SP (X.wish E) pins D f s'):SP X pins D f s':=by
 cases f with
 |next=>obtain⟨σ',H',I,q⟩:=h;exact⟨σ',H',I.unwish,q⟩
 |brk=>obtain⟨σ',H',I,q⟩:=h;exact⟨σ',H',I.unwish,q⟩
 |cont=>obtain⟨σ',H',I,q⟩:=h;exact⟨σ',H',I.unwish,q⟩
 |ret u=>obtain⟨v,σ',H',I,r,q⟩:=h;exact⟨v,σ',H',I.unwish,r,q⟩
theorem PSs.nox {st:List Stmt}{t:TS}(h:PSs X.nox st t):PSs X st t:=λpins s σ H D I hw =>
 wpAny_mono (h pins s σ H D (I.wish _) hw) (λ_ _ q=>q.unwish) λ_ _ z=>False.elim z
end
noncomputable section
variable {X:Cx}{st:Stmt}{rest:List Stmt}{t u:TS}{e:Expr}{te:TE}{pos:Pos}
noncomputable def Zkf:TS:=λD σ H=>D.nx σ H
noncomputable def tSeq (t u:TS):TS:=λD σ H=>t {D with nx:=u D} σ H
theorem Zr:PSs X [] Zkf:=λ_ _ σ H _ I h=>wpAny_execs_nil ⟨σ,H,I,h⟩
theorem Zb (h1:PS X st t)(h2:PSs X rest u):PSs X (st::rest) (tSeq t u):=by
 intro pins s σ H D I h
 refine wpAny_execs_cons (thn (h1 pins s σ H {D with nx:=u D} I h) λf s1 q=>?_)
 cases f with
 |next =>
  obtain⟨σ',H',I',q⟩:=q
  exact h2 pins s1 σ' H' D I' q
 |ret v=>exact q
 |brk=>exact q
 |cont=>exact q
theorem Zd (h1:PS X st t):PSs X [st] t:=by
 intro pins s σ H D I h
 refine wpAny_execs_cons (thn (h1 pins s σ H D I h) λf s1 q=>?_)
 cases f with
 |next=>exact wpAny_execs_nil q
 |ret v=>exact q
 |brk=>exact q
 |cont=>exact q
theorem Inv.quiet {pins:List (Addr×Obj)}{σ:St}{H:Hp}{s:Shared}(I:Inv X pins σ H s):interactive X.env=false:=by simp[interactive,I.ok.kind]
noncomputable def Zlk (te:TE):TS:=λD σ H=>te σ H λ_ H1=>D.nx σ H1
theorem Xd (he:PE X e te)(hs:swapsWith e none pos.line X.env=pure false:=by rfl):PS X (.Expr e pos) (Zlk te):=by
 intro pins s σ H D I h
 exact wpAny_Expr_any (thn (he pins s σ H _ I h) λv s1 ⟨x,H1,I1,r1,q1⟩=>⟨σ,H1,I1,q1⟩) I.quiet hs
noncomputable def tRet (te:TE):TS:=λD σ H=>te σ H D.rt
theorem Zj (he:PE X e te):PS X (.Return (some e) pos) (tRet te):=by
 intro pins s σ H D I h
 exact wpAny_Return_some (thn (he pins s σ H _ I h) λv s1 ⟨x,H1,I1,r1,q1⟩=>⟨x,σ,H1,I1,r1,q1⟩)
noncomputable def tIfS (c:TT)(t u:TS):TS:=λD σ H=>c σ H λb H1=>if b=true then t D σ H1 else u D σ H1
theorem Yh {c:Expr}{a b:List Stmt}{tc:TT}(hc:PT X c tc)(ha:PSs X a t)(hb:PSs X b u):PS X (.If c a b pos) (tIfS tc t u):=by
 intro pins s σ H D I h
 refine wpAny_If (thn (hc pins s σ H _ I h) λd s1 ⟨H1,I1,q1⟩=>?_)
 cases d with
 |true=>exact ha pins s1 σ H1 D I1 q1
 |false=>exact hb pins s1 σ H1 D I1 q1
end
abbrev TG:=V->St->Hp->(St->Hp->Prop)->Prop
abbrev TGs:=List V->St->Hp->(St->Hp->Prop)->Prop
noncomputable def PG (X:Cx)(target:Expr)(t:TG):Prop :=
 ∀(pins:List (Addr×Obj)) (s:Shared) (σ:St) (H:Hp) (v:V) (u:Value) (Q:St->Hp->Prop),Inv X pins σ H s->RelV v u->t v σ H Q->
  wpAny (model X.prog X.w) X.A (assign target X.env u) (λ_ s'=>∃σ' H',Inv X pins σ' H' s'/\Q σ' H') X.xe s
noncomputable def PGs (X:Cx)(ts:List Expr)(t:TGs):Prop :=
 ∀(pins:List (Addr×Obj)) (s:Shared) (σ:St) (H:Hp) (vs:List V) (us:List Value) (Q:St->Hp->Prop),Inv X pins σ H s->Vals vs us->t vs σ H Q->
  wpAny (model X.prog X.w) X.A (assignInOrder ((assignEach ts X.env).map (·.2)) us) (λ_ s'=>∃σ' H',Inv X pins σ' H' s'/\Q σ' H') X.xe s
abbrev TSet:=V->V->V->Hp->(Hp->Prop)->Prop
noncomputable def PSet (X:Cx)(t:TSet):Prop :=
 ∀(pins:List (Addr×Obj)) (s:Shared) (σ:St) (H:Hp) (o i v:V) (ov iv u:Value) (Q:Hp->Prop),Inv X pins σ H s->RelV o ov->RelV i iv->RelV v u->t o i v H Q->
  wpAny (model X.prog X.w) X.A (setItem ov iv u) (λ_ s'=>∃H',Inv X pins σ H' s'/\Q H') X.xe s
noncomputable section
variable {X:Cx}{pos:Pos}
noncomputable def Z3t (i:Nat):TG:=λv σ H Q=>Q (σ.set i (some v)) H
theorem Zdu {i:Nat}{x:Str}(hN:X.N.Nodup)(hi:X.N[i]?=some x)(hx:Loc X.env.scope x)(hf:X.fn x=true\/X.env.scope.names.lookup x=some .local:=by first | exact .inl rfl | exact .inr rfl | assumption):PG X (.Name x pos) (Z3t i):=by
 intro pins s σ H v u Q I r h
 exact wpAny_assign_Name (Zax I hN hi hx r (λs' I'=>⟨_,H,I',h⟩) hf)
noncomputable def gNil:TGs:=λvs σ H Q=>vs=[]/\Q σ H
noncomputable def Zj1 (t:TG)(u:TGs):TGs:=λvs σ H Q=>∃v r,vs=v::r/\t v σ H λσ' H'=>u r σ' H' Q
theorem Ww:PGs X [] gNil:=by
 intro pins s σ H vs us Q I r h
 obtain⟨e,h⟩:=h
 subst e
 cases r
 exact assignInOrder_nil ⟨σ,H,I,h⟩
theorem Yf {e:Expr}{es:List Expr}{t:TG}{u:TGs}(h1:PG X e t)(h2:PGs X es u)
  (hs:(assignEach (e::es) X.env).map (·.2)=assign e X.env::(assignEach es X.env).map (·.2):=by rfl):PGs X (e::es) (Zj1 t u):=by
 intro pins s σ H vs us Q I r h
 obtain⟨v,vr,e1,h⟩:=h
 subst e1
 cases r with
 |cons r rr =>
  rw[hs]
  refine assignInOrder_cons (thn (h1 pins s σ H _ _ _ I r h) λ_ s1 ⟨σ1,H1,I1,q1⟩=>?_)
  exact h2 pins s1 σ1 H1 _ _ Q I1 rr q1
noncomputable def gTup (K:PySem.W.Frag)(n:Nat)(t:TGs):TG:=λv σ H Q=>∃a xs,v=.ref a/\SqT K H a xs/\xs.length=n/\t xs σ H Q
theorem Te {es:List Expr}{k:Nat}{t:TGs}{n:Nat}(hc:X.calm=true)(h:PGs X es t)
  (hn:(assignEach es X.env).length=n:=by rfl) (hst:(assignEach es X.env).findIdx? (·.1)=none:=by rfl):PG X (.Tuple es k pos) (gTup X.K n t):=by
 intro pins s σ H v u Q I r hw
 obtain⟨a,xs,e1,hq,hl,hw⟩:=hw
 subst e1
 cases r
 obtain⟨its,rv,ht,hz⟩:=I.tuple hq
 refine assign_Tuple_tuple (I.ok.hd hc) ht (by simp[hn,<-hl,rv.length]) hst λh' hx=>?_
 have I1:Inv X pins σ H {s with heap:=h'}:=I.kept (t':=s.toks) λb o e=>hx b o (Nat.ne_of_lt (Heap.lt_size e)) e
 exact h pins _ σ H xs _ Q I1 (by simpa using rv) hw
noncomputable def gSub (to ti:TE)(t:TSet):TG:=λv σ H Q=>to σ H λo H1=>ti σ H1 λi H2=>t o i v H2 λH3=>Q σ H3
theorem Z2t {o i:Expr}{to ti:TE}{t:TSet}(ho:PE X o to)(hi:PE X i ti)(hs:PSet X t)
  (ha:∀v,assign (.Subscript o i pos) X.env v=(do
   let ov<-holding [v] (eval o X.env)
   let iv<-holding [v,ov] (eval i X.env)
   standAt pos
   holding [v,ov,iv] (setItem ov iv v)
   release [v,ov,iv] []):=by intro _;rfl):PG X (.Subscript o i pos) (gSub to ti t):=by
 intro pins s σ H v u Q I r h
 rw[ha]
 refine wpAny_bind (wpAny_holding (thn (ho pins s σ H _ I h) λov s1 ⟨x,H1,I1,r1,q1⟩=>?_))
 refine wpAny_bind (wpAny_holding (thn (hi pins s1 σ H1 _ I1 q1) λiv s2 ⟨y,H2,I2,r2,q2⟩=>?_))
 refine wpAny_bind (wpAny_standAt (wpAny_bind (wpAny_holding (thn (hs pins s2 σ H2 x y v ov iv u _ I2 r1 r2 r q2) λ_ s3 ⟨H3,I3,q3⟩=>?_))))
 exact wpAny_release ⟨σ,H3,I3,q3⟩
noncomputable def tAsg (te:TE)(g:TG):TS:=λD σ H=>te σ H λx H1=>g x σ H1 D.nx
theorem Z2u {tg e:Expr}{te:TE}{g:TG}(he:PE X e te)(hg:PG X tg g)(hs:swapsWithSole [tg] e pos.line X.env=pure false:=by rfl)(hw:swappedStores [tg] e X.env=pure none:=by rfl)
  (h1:(assignEach [tg] X.env).map (·.2)=[assign tg X.env]:=by rfl):PS X (.Assign [tg] e pos) (tAsg te g):=by
 intro pins s σ H D I h
 refine wpAny_Assign_stores (thn (he pins s σ H _ I h) λv s1 ⟨x,H1,I1,r1,q1⟩=>?_) hs hw
 rw[h1]
 exact thn (hg pins s1 σ H1 x v _ I1 r1 q1) λ_ s2 q=>q
theorem Jo {i:Nat}{x:Str}{e:Expr}{te:TE}{pos':Pos}(hN:X.N.Nodup)(hi:X.N[i]?=some x)(hx:Loc X.env.scope x)(he:PE X e te)(hs:swapsWith e (some (.Name x pos')) pos.line X.env=pure false:=by rfl)(hf:X.fn x=true\/X.env.scope.names.lookup x=some .local:=by first | exact .inl rfl | exact .inr rfl | assumption) :
  PS X (.Assign [.Name x pos'] e pos) (tAsg te (Z3t i)):=by
 intro pins s σ H D I h
 refine wpAny_Assign_Name (thn (he pins s σ H _ I h) λv s1 ⟨y,H1,I1,r1,q1⟩=>?_) hs
 exact Zax I1 hN hi hx r1 (λs2 I2=>⟨_,H1,I2,q1⟩) hf
end
noncomputable section
variable {X:Cx}{pos:Pos}
noncomputable def Zkg (c:TT)(tb:TS):TS:=λD σ H=>∃W:Nat->St->Hp->Prop,(∃m,W m σ H)/\∀m σ H,W m σ H->
 c σ H λb H1=>if b=true then ∃N:St->Hp->Prop,(∀σ' H',N σ' H'->∃m',m'<m/\W m' σ' H')/\tb {D with nx:=N,ct:=N,bk:=D.nx} σ H1 else D.nx σ H1
theorem Je {c:Expr}{body:List Stmt}{tc:TT}{tb:TS}(hp:PassesOwn (model X.prog X.w) X.A X.env X.xe)(hc:PT X c tc)(hb:PSs X body tb):PS X (.While c body [] pos) (Zkg tc tb):=by
 intro pins s σ H D I h
 obtain⟨W,⟨m0,w0⟩,turn⟩:=h
 refine wpAny_While (codeAny_whileLoop (λn s'=>∃σ' H',Inv X pins σ' H' s'/\W n σ' H') ?_ m0 ⟨σ,H,I,w0⟩)
 rintro n s1 ⟨σ1,H1,I1,w1⟩
 refine wpAny_passesOwn hp (thn (hc pins s1 σ1 H1 _ I1 (turn n σ1 H1 w1)) λb s2 ⟨H2,I2,q2⟩=>?_)
 cases b with
 |true =>
  obtain⟨N,hN,q2⟩:=q2
  rw[if_pos rfl]
  refine wpAny_passesOwn hp (thn (hb pins s2 σ1 H2 _ I2 q2) λf s3 q3=>?_)
  cases f with
  |next =>
   obtain⟨σ3,H3,I3,n3⟩:=q3
   obtain⟨m',hm,w3⟩:=hN σ3 H3 n3
   exact⟨m',hm,σ3,H3,I3,w3⟩
  |cont =>
   obtain⟨σ3,H3,I3,n3⟩:=q3
   obtain⟨m',hm,w3⟩:=hN σ3 H3 n3
   exact⟨m',hm,σ3,H3,I3,w3⟩
  |brk=>exact q3
  |ret v=>exact q3
 |false =>
  rw[if_neg Bool.false_ne_true]
  exact wpAny_execs_nil ⟨σ1,H2,I2,q2⟩
end
structure It where
 go:Nat->Hp->Prop
 yld:Nat->Hp->V->Hp->Prop
 stop:Nat->Hp->Prop
noncomputable def FpOk (X:Cx)(pins:List (Addr×Obj))(H:Hp)(b:Addr):Prop :=
 H b=none/\b≠X.env.locals/\b∉X.fs/\(b∈X.ex\/X.s_0.heap.objs.size<=b)/\(∀x c,X.env.cells.lookup x=some c->c≠b)/\∀p∈X.pn++pins,p.1≠b
theorem Inv.fpOk {X:Cx}{pins:List (Addr×Obj)}{σ:St}{H H':Hp}{s:Shared}{b:Addr}(I:Inv X pins σ H s)(hb:s.heap.objs.size<=b)(hn:H' b=none):FpOk X pins H' b:=by
 refine⟨hn,Nat.ne_of_gt (Nat.lt_of_lt_of_le I.lt hb),I.nofs hb,.inr (Nat.le_trans I.sz hb),λx c e z=>?_,λp hp z=>?_⟩
 ·obtain⟨v,q⟩:=I.cell x c e
  exact absurd (Nat.lt_of_lt_of_le q.lt (by rw[z];exact hb)) (Nat.lt_irrefl _)
 ·exact absurd (Nat.lt_of_lt_of_le (Heap.lt_size (I.pin p hp).1) (by rw[z];exact hb)) (Nat.lt_irrefl _)
structure Turn (P:Program)(w:World)(K:PySem.W.Frag)(tg:Expr)(J:It)(fp:List Addr)(it:Addr)(tn:Nat->Heap->Prop):Prop where
 mem:it∈fp
 obj:∀i h,tn i h->∀b∈fp,∃o,h.get? b=some o/\∀v,o.data≠.cell v
 keep:∀i h h',tn i h->(∀b∈fp,∀o,h.get? b=some o->h'.get? b=some o)->tn i h'
 item:∀(X:Cx),X.prog=P->X.w=w->X.K=K->X.calm=true->∀(i:Nat) (pins:List (Addr×Obj)) (s:Shared) (σ:St) (H:Hp) (E:Value->Shared->Prop),Inv X pins σ H s->(∀b∈fp,FpOk X pins H b)->tn i s.heap->J.go i H->
  wpAny (model P w) X.A (pyNext (.ref it)) (λr s1=>∃u,r=some u/\
   wpAny (model P w) X.A (letOwnedTupleGo tg (.ref it) u) (λ_ s2=>∃x H',Inv X pins σ H' s2/\RelV x u/\J.yld i H x H'/\tn (i+1) s2.heap/\∀b∈fp,H' b=none) E s1) E s
 done:∀(X:Cx),X.prog=P->X.w=w->X.K=K->X.calm=true->∀(i:Nat) (pins:List (Addr×Obj)) (s:Shared) (σ:St) (H:Hp) (E:Value->Shared->Prop),Inv X pins σ H s->(∀b∈fp,FpOk X pins H b)->tn i s.heap->J.stop i H->
  wpAny (model P w) X.A (pyNext (.ref it)) (λr s1=>r=none/\Inv X pins σ H s1) E s
 self:∀(A:Around) (i:Nat) (s:Shared) (Q:Value->Shared->Prop) (E:Value->Shared->Prop),tn i s.heap->Q (.ref it) s->wpAny (model P w) A (pyIter (.ref it)) Q E s
abbrev TI:=St->Hp->(It->Hp->Prop)->Prop
noncomputable def PIE (X:Cx)(pins:List (Addr×Obj))(σ:St)(tg:Expr)(R:It->Hp->Prop)(itv:Value)(s2:Shared):Prop :=
 ∃(it:Addr) (fp:List Addr) (tn:Nat->Heap->Prop) (J:It) (H':Hp),itv=.ref it/\Inv X pins σ H' s2/\Turn X.prog X.w X.K tg J fp it tn/\tn 0 s2.heap/\(∀b∈fp,FpOk X pins H' b)/\R J H'
noncomputable def PI (X:Cx)(tg iter:Expr)(wi:TI):Prop :=
 ∀(pins:List (Addr×Obj)) (s:Shared) (σ:St) (H:Hp) (R:It->Hp->Prop),Inv X pins σ H s->wi σ H R->
  wpAny (model X.prog X.w) X.A (eval iter X.env) (λv s1=>wpAny (model X.prog X.w) X.A (pyIter v) (PIE X pins σ tg R) X.xe s1) X.xe s
theorem Zdv {M:Model}{A:Around}{E:Value->Shared->Prop}{s:Shared}{tg:Expr}{it:Addr}{u:Value}{o:Obj}{n:String}{vs:Array Value}{Q:Unit->Shared->Prop}(ho:s.heap.get? it=some o)(hc:o.cls=.type n)(hd:o.data=.fields vs)
    (hn:["enumerate","zip","dict_itemiterator","dict_reverseitemiterator","odict_iterator","itertools.zip_longest","itertools.pairwise"].contains n=false) (hQ:Q () s):wpAny M A (letOwnedTupleGo tg (.ref it) u) Q E s:=by
  unfold letOwnedTupleGo
  cases tg <;> first
    | exact wpAny_pure hQ
    | (cases u <;> first
        | exact wpAny_pure hQ
        | (refine wpAny_bind (wpAny_load ho ?_)
           rw[hc,hd]
           show wpAny M A (if(["enumerate","zip","dict_itemiterator","dict_reverseitemiterator","odict_iterator","itertools.zip_longest","itertools.pairwise"].contains n&&vs[0]? == some (rawInt _))=true then _ else _) Q E s
           rw[if_neg (by intro h;rw[hn,Bool.false_and]at h;cases h)]
           exact wpAny_pure hQ))
noncomputable def Itl (K:PySem.W.Frag)(a:Addr):It :=
 ⟨λi H=>∃xs x,SqL K H a xs/\xs[i]?=some x,λi H x H'=>H'=H/\∀xs,SqL K H a xs->xs[i]?=some x,λi H=>∃xs,SqL K H a xs/\xs.length<=i⟩
noncomputable def Itt (K:PySem.W.Frag)(a:Addr):It :=
 ⟨λi H=>∃xs x,SqT K H a xs/\xs[i]?=some x,λi H x H'=>H'=H/\∀xs,SqT K H a xs->xs[i]?=some x,λi H=>∃xs,SqT K H a xs/\xs.length<=i⟩
noncomputable def Itr (lo:Int)(n:Nat):It:=⟨λi _=>i<n,λi H x H'=>H'=H/\x=.int (lo+i),λi _=>n<=i⟩
theorem Zdw {P:Program}{w:World}{K:PySem.W.Frag}{tg:Expr}(a it:Addr):Turn P w K tg (Itl K a) [it] it (λi h=>h.IsListIter it a i) where
 mem:=by simp
 obj:=λi h st b hb=>by
  have e:b=it:=by simpa using hb
  subst e
  obtain⟨o,e,c,d⟩:=st
  exact⟨o,e,λv z=>by rw[d]at z;cases z⟩
 keep:=λi h h' st k=>st.at λo e=>k it (by simp) o e
 item:=by
  intro X hP hw hK hc i pins s σ H E I hf st hg
  subst hP hw hK
  obtain⟨xs,x,hq,hx⟩:=hg
  obtain⟨its,rv,p,hz⟩:=I.list hq
  obtain⟨u,hu,ru⟩:=rv.get hx
  obtain⟨f0,f1,f2,f3,f4,f5⟩:=hf it (by simp)
  refine wpAny_pyNext_list_item st p.isList (x:=u) (by simpa using hu) λh' st' sb=>?_
  have I1:Inv X pins σ H {s with heap:=h'}:=I.turned (t':=s.toks) (λb o hb e=>(sb.2 b hb).trans e) f0 f1 f3 f4 f5
  obtain⟨o,e,c,d⟩:=id st'
  exact⟨u,rfl,Zdv (s:={s with heap:=h'}) e c d (by decide) ⟨x,H,I1,ru,⟨rfl,λys hy=>by rw[I.list_inj hy hq];exact hx⟩,st',λb hb=>(hf b hb).1⟩⟩
 done:=by
  intro X hP hw hK hc i pins s σ H E I hf st hg
  subst hP hw hK
  obtain⟨xs,hq,hx⟩:=hg
  obtain⟨its,rv,p,hz⟩:=I.list hq
  obtain⟨f0,f1,f2,f3,f4,f5⟩:=hf it (by simp)
  have hl:=rv.length
  exact wpAny_pyNext_list_end (I.ok.hd hc) st p.isList (by simp;omega) λh' eb=>⟨rfl,I.turned (t':=s.toks) (λb o hb e=>eb b o hb e) f0 f1 f3 f4 f5⟩
 self:=λ_ _ _ _ _ st h=>wpAny_pyIter_listiter st h
theorem Zcc {P:Program}{w:World}{K:PySem.W.Frag}{tg:Expr}(a it:Addr):Turn P w K tg (Itt K a) [it] it (λi h=>h.IsTupleIter it a i) where
 mem:=by simp
 obj:=λi h st b hb=>by
  have e:b=it:=by simpa using hb
  subst e
  obtain⟨o,e,c,d⟩:=st
  exact⟨o,e,λv z=>by rw[d]at z;cases z⟩
 keep:=λi h h' st k=>st.at λo e=>k it (by simp) o e
 item:=by
  intro X hP hw hK hc i pins s σ H E I hf st hg
  subst hP hw hK
  obtain⟨xs,x,hq,hx⟩:=hg
  obtain⟨its,rv,p,hz⟩:=I.tuple hq
  obtain⟨u,hu,ru⟩:=rv.get hx
  obtain⟨f0,f1,f2,f3,f4,f5⟩:=hf it (by simp)
  refine wpAny_pyNext_tuple_item st (show s.heap.IsTuple a its.toArray from p) (x:=u) (by simpa using hu) λh' st' sb=>?_
  have I1:Inv X pins σ H {s with heap:=h'}:=I.turned (t':=s.toks) (λb o hb e=>(sb.2 b hb).trans e) f0 f1 f3 f4 f5
  obtain⟨o,e,c,d⟩:=id st'
  exact⟨u,rfl,Zdv (s:={s with heap:=h'}) e c d (by decide) ⟨x,H,I1,ru,⟨rfl,λys hy=>by rw[I.tuple_inj hy hq];exact hx⟩,st',λb hb=>(hf b hb).1⟩⟩
 done:=by
  intro X hP hw hK hc i pins s σ H E I hf st hg
  subst hP hw hK
  obtain⟨xs,hq,hx⟩:=hg
  obtain⟨its,rv,p,hz⟩:=I.tuple hq
  obtain⟨f0,f1,f2,f3,f4,f5⟩:=hf it (by simp)
  have hl:=rv.length
  exact wpAny_pyNext_tuple_end (I.ok.hd hc) st (show s.heap.IsTuple a its.toArray from p) (by simp;omega) λh' eb=>⟨rfl,I.turned (t':=s.toks) (λb o hb e=>eb b o hb e) f0 f1 f3 f4 f5⟩
 self:=λ_ _ _ _ _ st h=>wpAny_pyIter_tupleiter st h
theorem Zcd {P:Program}{w:World}{K:PySem.W.Frag}{tg:Expr}(it:Addr)(lo:Int)(n:Nat):Turn P w K tg (Itr lo n) [it] it (λi h=>IsRangeIter h it (lo+(i:Nat)*1) ((n:Int)-(i:Nat)) 1) where
 mem:=by simp
 obj:=λi h st b hb=>by
  have e:b=it:=by simpa using hb
  subst e
  exact⟨_,st,λv z=>by
   have z':Data.fields _=Data.cell v:=z
   cases z'⟩
 keep:=λi h h' st k=>k it (by simp) _ st
 item:=by
  intro X hP hw hK hc i pins s σ H E I hf st hg
  subst hP hw hK
  obtain⟨f0,f1,f2,f3,f4,f5⟩:=hf it (by simp)
  have W:=Walks.range (prog:=X.prog) (w:=X.w) (I.ok.hd hc) it lo 1 n
  refine W.item i s _ _ hg st λv h' tk hv st' kk=>?_
  obtain⟨t,rfl⟩:=hv
  have I1:Inv X pins σ H {s with heap:=h',toks:=tk}:=I.turned (λb o hb e=>kk b o (by simpa using hb) e) f0 f1 f3 f4 f5
  refine⟨_,rfl,Zdv (s:={s with heap:=h',toks:=tk}) (n:="range_iterator") st' rfl rfl (by decide) ⟨.int (lo+i),H,I1,⟨t,?_⟩,⟨rfl,rfl⟩,st',λb hb=>(hf b hb).1⟩⟩
  rw[Int.mul_one]
 done:=by
  intro X hP hw hK hc i pins s σ H E I hf st hg
  subst hP hw hK
  obtain⟨f0,f1,f2,f3,f4,f5⟩:=hf it (by simp)
  exact wpAny_pyNext_range_end (I.ok.hd hc) st (by have:n<=i:=hg;omega) λh' eb=>⟨rfl,I.turned (t':=s.toks) (λb o hb e=>eb b o hb e) f0 f1 f3 f4 f5⟩
 self:=λ_ _ _ _ _ st h=>wpAny_pyIter_rangeiter st h
end L2
namespace L2
open PySem PySem.Spec PyProof.Rows
noncomputable section
variable {X:Cx}{tg:Expr}
noncomputable def Zll (K:PySem.W.Frag)(tl:TE):TI:=λσ H R=>tl σ H λx H1=>∃a,x=.ref a/\(∃xs,SqL K H1 a xs)/\R (Itl K a) H1
noncomputable def iTup (K:PySem.W.Frag)(tl:TE):TI:=λσ H R=>tl σ H λx H1=>∃a,x=.ref a/\(∃xs,SqT K H1 a xs)/\R (Itt K a) H1
theorem Yc {l:Expr}{tl:TE}(hl:PE X l tl):PI X tg l (Zll X.K tl):=by
 intro pins s σ H R I h
 refine thn (hl pins s σ H _ I h) λv s1 ⟨x,H1,I1,r1,q1⟩=>?_
 obtain⟨a,e,⟨xs,hq⟩,q⟩:=q1
 subst e
 cases r1
 obtain⟨its,rv,p,hz⟩:=I1.list hq
 refine wpAny_pyIter_list p.isList ?_
 refine⟨s1.heap.objs.size,[s1.heap.objs.size],_,_,H1,rfl,I1.kept (t':=s1.toks) λb o e=>Heap.get?_push_of_some _ e,Zdw a _,⟨_,Heap.get?_push_size _ rfl,rfl,rfl⟩,λb hb=>?_,q⟩
 have e:b=s1.heap.objs.size:=by simpa using hb
 subst e
 exact I1.fpOk (Nat.le_refl _) (I1.hok.fresh (Nat.le_refl _))
theorem Zdx {l:Expr}{tl:TE}(hl:PE X l tl):PI X tg l (iTup X.K tl):=by
 intro pins s σ H R I h
 refine thn (hl pins s σ H _ I h) λv s1 ⟨x,H1,I1,r1,q1⟩=>?_
 obtain⟨a,e,⟨xs,hq⟩,q⟩:=q1
 subst e
 cases r1
 obtain⟨its,rv,p,hz⟩:=I1.tuple hq
 refine wpAny_pyIter_tuple (show s1.heap.IsTuple a its.toArray from p) ?_
 refine⟨s1.heap.objs.size,[s1.heap.objs.size],_,_,H1,rfl,I1.kept (t':=s1.toks) λb o e=>Heap.get?_push_of_some _ e,Zcc a _,⟨_,Heap.get?_push_size _ rfl,rfl,rfl⟩,λb hb=>?_,q⟩
 have e:b=s1.heap.objs.size:=by simpa using hb
 subst e
 exact I1.fpOk (Nat.le_refl _) (I1.hok.fresh (Nat.le_refl _))
theorem Zaz {pins:List (Addr×Obj)}{σ:St}{H:Hp}{s:Shared}{R:It->Hp->Prop}{E:Value->Shared->Prop}{lo hi:Int}{t u v:Tok}{tk:Nat}(I:Inv X pins σ H s)(h1:-(2 ^ 62)<=lo)(h2:lo<2 ^ 62)(h3:-(2 ^ 62)<=hi)(h4:hi<2 ^ 62)
  (q:R (Itr lo (hi-lo).toNat) H):wpAny (model X.prog X.w) X.A (pyIter (.ref s.heap.objs.size)) (PIE X pins σ tg R) E {s with heap:=s.heap.push {cls:=.type "range",data:=.fields #[.int lo t,.int hi u,.int 1 v]},toks:=tk}:=by
 refine wpAny_pyIter_range (IsRange.new ..) (small_one h1 h2 h3 h4) ?_
 have I1:Inv X pins σ H {s with heap:=s.heap.push {cls:=.type "range",data:=.fields #[.int lo t,.int hi u,.int 1 v]},toks:=tk}:=I.kept λb o e=>Heap.get?_push_of_some _ e
 refine⟨(s.heap.push {cls:=.type "range",data:=.fields #[.int lo t,.int hi u,.int 1 v]}).objs.size,[(s.heap.push {cls:=.type "range",data:=.fields #[.int lo t,.int hi u,.int 1 v]}).objs.size],_,_,H,rfl,
  I1.kept (t':=tk) λb o e=>Heap.get?_push_of_some _ e,Zcd _ lo (hi-lo).toNat,?_,λb hb=>?_,q⟩
 ·have e1:lo+((0:Nat):Int)*1=lo:=by simp
  have e2:(((hi-lo).toNat:Nat):Int)-((0:Nat):Int)=Builtin.Range.rangeSize lo hi 1:=by rw[rangeSize_one];split <;> omega
  show IsRangeIter _ _ (lo+((0:Nat):Int)*1) ((((hi-lo).toNat:Nat):Int)-((0:Nat):Int)) 1
  rw[e1,e2]
  exact Heap.get?_push_size _ rfl
 ·have e:b=(s.heap.push {cls:=.type "range",data:=.fields #[.int lo t,.int hi u,.int 1 v]}).objs.size:=by simpa using hb
  subst e
  exact I1.fpOk (Nat.le_refl _) (I1.hok.fresh (Nat.le_refl _))
noncomputable def Zlm (ta:TA):TI:=λσ H R=>ta σ H λvs H1=>∃j:Int,vs=[.int j]/\-(2 ^ 62)<=j/\j<2 ^ 62/\R (Itr 0 j.toNat) H1
noncomputable def Zln (ta:TA):TI:=λσ H R=>ta σ H λvs H1=>∃i j:Int,vs=[.int i,.int j]/\(-(2 ^ 62)<=i/\i<2 ^ 62/\-(2 ^ 62)<=j/\j<2 ^ 62)/\R (Itr i (j-i).toNat) H1
theorem Jp {a:Expr}{ta:TA}{p pos:Pos}(hg:Gl X "range")(hm:X.mg "range"=none)(ha:PA X [a] ta)(hs:starEach [a] X.env=[(false,eval a X.env)]:=by rfl):PI X tg (.Call (.Name "range" p) [a] [] pos) (Zlm ta):=by
 intro pins s σ H R I h
 refine Call_ (Td I hg hm boot_range (PyProof.Rows.callWith_type1 (thn (ha pos pins s σ H _ I h) λus s1 ⟨vs,H1,I1,r1,q1⟩=>?_) hs rfl))
 obtain⟨j,e,q1,q2,q⟩:=q1
 subst e
 cases r1 with
 |cons r rr =>
  cases rr
  obtain⟨t,rfl⟩:=r
  exact call_range_1 (Zaz I1 (by omega) (by omega) q1 q2 (by simpa using q))
theorem Zdy {a b:Expr}{ta:TA}{p pos:Pos}(hg:Gl X "range")(hm:X.mg "range"=none)(ha:PA X [a,b] ta)(hs:starEach [a,b] X.env=[(false,eval a X.env),(false,eval b X.env)]:=by rfl)(hs2:starEach [b] X.env=[(false,eval b X.env)]:=by rfl) :
  PI X tg (.Call (.Name "range" p) [a,b] [] pos) (Zln ta):=by
 intro pins s σ H R I h
 refine Call_ (Td I hg hm boot_range (PyProof.Rows.callWith_type1 (thn (ha pos pins s σ H _ I h) λus s1 ⟨vs,H1,I1,r1,q1⟩=>?_) (by rw[hs,hs2]) (by rw[hs2];rfl)))
 obtain⟨i,j,e,⟨q1,q2,q3,q4⟩,q⟩:=q1
 subst e
 cases r1 with
 |cons r rr =>
  cases rr with
  |cons r' rr =>
   cases rr
   obtain⟨t,rfl⟩:=r
   obtain⟨t',rfl⟩:=r'
   exact call_range_2 (Zaz I1 q1 q2 q3 q4 q)
noncomputable def tFor (wi:TI)(g:TG)(tb:TS):TS:=λD σ H=>wi σ H λJ H1=>∃W:Nat->Nat->St->Hp->Prop,(∃m,W 0 m σ H1)/\∀i m σ H,W i m σ H->
 (J.stop i H/\D.nx σ H)\/(J.go i H/\∃N:St->Hp->Prop,(∀σ' H',N σ' H'->∃m',m'<m/\W (i+1) m' σ' H')/\∀x H',J.yld i H x H'->g x σ H' λσ2 H2=>tb {D with nx:=N,ct:=N,bk:=D.nx} σ2 H2)
noncomputable def Z6h (fp:List Addr)(h:Heap):List (Addr×Obj):=fp.filterMap λb=>(h.get? b).map λo=>(b,o)
theorem Oj {fp:List Addr}{h:Heap}{b:Addr}{o:Obj}(hb:b∈fp)(e:h.get? b=some o):(b,o)∈Z6h fp h:=List.mem_filterMap.mpr ⟨b,hb,by rw[e];rfl⟩
theorem Zdz {fp:List Addr}{h:Heap}{p:Addr×Obj}(hp:p∈Z6h fp h):p.1∈fp/\h.get? p.1=some p.2:=by
 obtain⟨b,hb,e⟩:=List.mem_filterMap.mp hp
 cases q:h.get? b with
 |none=>rw[q]at e;cases e
 |some o =>
  rw[q]at e
  have e':(b,o)=p:=Option.some.inj e
  subst e'
  exact⟨hb,q⟩
theorem Inv.pinned {pins:List (Addr×Obj)}{σ:St}{H:Hp}{s:Shared}{fp:List Addr}(I:Inv X pins σ H s)(hf:∀b∈fp,FpOk X pins H b)(ho:∀b∈fp,∃o,s.heap.get? b=some o/\∀v,o.data≠.cell v):Inv X (pins++Z6h fp s.heap) σ H s :=
 I.pins_of λp hp=>(List.mem_append.mp hp).elim (λz=>I.pin p (List.mem_append_right _ z)) λz=>by
  obtain⟨hb,e⟩:=Zdz z
  obtain⟨f0,f1,f2,_⟩:=hf p.1 hb
  obtain⟨o,e',d⟩:=ho p.1 hb
  rw[e]at e';cases e'
  exact⟨e,f0,f1,f2,d⟩
theorem Inv.unpinned {pins pl:List (Addr×Obj)}{σ:St}{H:Hp}{s:Shared}(I:Inv X (pins++pl) σ H s):Inv X pins σ H s:=I.pins_of λp hp=>I.pin p (List.mem_append_right _ (List.mem_append_left _ hp))
theorem Yy {iter:Expr}{body:List Stmt}{wi:TI}{g:TG}{tb:TS}{pos:Pos}(hp:PassesOwn (model X.prog X.w) X.A X.env X.xe)(hc:X.calm=true)(hi:PI X tg iter wi)(hg:PG X tg g)(hb:PSs X body tb)
  (hs:∀x,foldedSetIterable iter X.env x=pure x:=by intro _;rfl):PS X (.For tg iter body [] pos) (tFor wi g tb):=by
 intro pins s σ H D I h
 refine wpAny_For (thn (hi pins s σ H _ I h) λv s1 h1=>thn h1 λitv s2 h2=>?_) hs
 obtain⟨it,fp,tn,J,H2,e,I2,T,st2,f2,W,⟨m0,w0⟩,turn⟩:=h2
 subst e
 have stat:∀{H':Hp},(∀b∈fp,H' b=none)->∀b∈fp,FpOk X pins H' b:=λhn b hb=>⟨hn b hb,(f2 b hb).2⟩
 refine codeAny_forLoop_any (λn s'=>∃i σ' H',Inv X pins σ' H' s'/\tn i s'.heap/\(∀b∈fp,H' b=none)/\W i n σ' H') ?_ m0 ⟨0,σ,H2,I2,st2,λb hb=>(f2 b hb).1,w0⟩
 rintro n s3 ⟨i,σ3,H3,I3,st3,fr3,w3⟩
 rcases turn i n σ3 H3 w3 with⟨stop,qn⟩ | ⟨go,N,hN,step⟩
 ·refine wpAny_passesOwn hp (thn (T.done X rfl rfl rfl hc i pins s3 σ3 H3 X.xe I3 (stat fr3) st3 stop) λr s4 ⟨hr,I4⟩=>?_)
  subst hr
  exact wpAny_execs_nil ⟨σ3,H3,I4,qn⟩
 ·refine wpAny_passesOwn hp (thn (T.item X rfl rfl rfl hc i pins s3 σ3 H3 X.xe I3 (stat fr3) st3 go) λr s4 ⟨u,hr,h4⟩=>?_)
  subst hr
  refine wpAny_passesOwn hp (thn h4 λ_ s5 ⟨x,H5,I5,r5,y5,st5,fr5⟩=>?_)
  have I5':=I5.pinned (stat fr5) (T.obj _ _ st5)
  refine wpAny_passesOwn hp (thn (hg _ s5 σ3 H5 x u _ I5' r5 (step x H5 y5)) λ_ s6 ⟨σ6,H6,I6,q6⟩=>?_)
  refine wpAny_passesOwn hp (thn (hb _ s6 σ6 H6 _ I6 q6) λf s7 q7=>?_)
  have again:∀{σ7:St} {H7:Hp},Inv X (pins++Z6h fp s5.heap) σ7 H7 s7->N σ7 H7->∃m,m<n/\∃i σ' H',Inv X pins σ' H' s7/\tn i s7.heap/\(∀b∈fp,H' b=none)/\W i m σ' H':=λ{σ7 H7} I7 n7=>by
   obtain⟨m',hm,w7⟩:=hN σ7 H7 n7
   refine⟨m',hm,i+1,σ7,H7,I7.unpinned,T.keep _ _ _ st5 λb hb o e=>(I7.pin (b,o) (List.mem_append_right _ (List.mem_append_right _ (Oj hb e)))).1,λb hb=>?_,w7⟩
   obtain⟨o,e,d⟩:=T.obj _ _ st5 b hb
   exact(I7.pin (b,o) (List.mem_append_right _ (List.mem_append_right _ (Oj hb e)))).2.1
  cases f with
  |next=>obtain⟨σ7,H7,I7,n7⟩:=q7;exact again I7 n7
  |cont=>obtain⟨σ7,H7,I7,n7⟩:=q7;exact again I7 n7
  |brk=>obtain⟨σ7,H7,I7,q7⟩:=q7;exact⟨σ7,H7,I7.unpinned,q7⟩
  |ret v=>obtain⟨x7,σ7,H7,I7,r7,q7⟩:=q7;exact⟨x7,σ7,H7,I7.unpinned,r7,q7⟩
end
theorem Xk {K:PySem.W.Frag}{a:Addr}{xs:List V}{g:TG}{tb:TS}{D:Ends}{σ:St}{H:Hp}(Pv:Nat->St->Hp->Prop)(h0:Pv 0 σ H)(hl:∀i σ H,i<=xs.length->Pv i σ H->SqL K H a xs)
  (hs:∀i x σ H,xs[i]?=some x->Pv i σ H->g x σ H λσ2 H2=>tb {D with nx:=Pv (i+1),ct:=Pv (i+1),bk:=D.nx} σ2 H2) (hd:∀σ H,Pv xs.length σ H->D.nx σ H) :
  ∃W:Nat->Nat->St->Hp->Prop,(∃m,W 0 m σ H)/\∀i m σ H,W i m σ H->
   ((Itl K a).stop i H/\D.nx σ H)\/((Itl K a).go i H/\∃N:St->Hp->Prop,(∀σ' H',N σ' H'->∃m',m'<m/\W (i+1) m' σ' H')/\∀x H',(Itl K a).yld i H x H'->g x σ H' λσ2 H2=>tb {D with nx:=N,ct:=N,bk:=D.nx} σ2 H2):=by
 refine⟨λi m σ H=>m=xs.length-i/\i<=xs.length/\Pv i σ H,⟨xs.length,by simp,Nat.zero_le _,h0⟩,?_⟩
 rintro i m σ H ⟨rfl,hi,p⟩
 have q:=hl i σ H hi p
 by_cases hlt:i<xs.length
 ·refine .inr ⟨⟨xs,xs[i],q,by simp[hlt]⟩,Pv (i+1),λσ' H' p'=>⟨xs.length-(i+1),by omega,rfl,hlt,p'⟩,λx H' y=>?_⟩
  obtain⟨e,y⟩:=y
  subst e
  exact hs i x σ _ (y xs q) p
 ·have e:i=xs.length:=by omega
  subst e
  exact .inl ⟨⟨xs,q,Nat.le_refl _⟩,hd σ H p⟩
theorem Ze0 {K:PySem.W.Frag}{a:Addr}{xs:List V}{g:TG}{tb:TS}{D:Ends}{σ:St}{H:Hp}(Pv:Nat->St->Hp->Prop)(h0:Pv 0 σ H)(hl:∀i σ H,i<=xs.length->Pv i σ H->SqT K H a xs)
  (hs:∀i x σ H,xs[i]?=some x->Pv i σ H->g x σ H λσ2 H2=>tb {D with nx:=Pv (i+1),ct:=Pv (i+1),bk:=D.nx} σ2 H2) (hd:∀σ H,Pv xs.length σ H->D.nx σ H) :
  ∃W:Nat->Nat->St->Hp->Prop,(∃m,W 0 m σ H)/\∀i m σ H,W i m σ H->
   ((Itt K a).stop i H/\D.nx σ H)\/((Itt K a).go i H/\∃N:St->Hp->Prop,(∀σ' H',N σ' H'->∃m',m'<m/\W (i+1) m' σ' H')/\∀x H',(Itt K a).yld i H x H'->g x σ H' λσ2 H2=>tb {D with nx:=N,ct:=N,bk:=D.nx} σ2 H2):=by
 refine⟨λi m σ H=>m=xs.length-i/\i<=xs.length/\Pv i σ H,⟨xs.length,by simp,Nat.zero_le _,h0⟩,?_⟩
 rintro i m σ H ⟨rfl,hi,p⟩
 have q:=hl i σ H hi p
 by_cases hlt:i<xs.length
 ·refine .inr ⟨⟨xs,xs[i],q,by simp[hlt]⟩,Pv (i+1),λσ' H' p'=>⟨xs.length-(i+1),by omega,rfl,hlt,p'⟩,λx H' y=>?_⟩
  obtain⟨e,y⟩:=y
  subst e
  exact hs i x σ _ (y xs q) p
 ·have e:i=xs.length:=by omega
  subst e
  exact .inl ⟨⟨xs,q,Nat.le_refl _⟩,hd σ H p⟩
theorem Pb {lo:Int}{n:Nat}{g:TG}{tb:TS}{D:Ends}{σ:St}{H:Hp}(Pv:Nat->St->Hp->Prop)(h0:Pv 0 σ H)
  (hs:∀i σ H,i<n->Pv i σ H->g (.int (lo+i)) σ H λσ2 H2=>tb {D with nx:=Pv (i+1),ct:=Pv (i+1),bk:=D.nx} σ2 H2) (hd:∀σ H,Pv n σ H->D.nx σ H) :
  ∃W:Nat->Nat->St->Hp->Prop,(∃m,W 0 m σ H)/\∀i m σ H,W i m σ H->
   ((Itr lo n).stop i H/\D.nx σ H)\/((Itr lo n).go i H/\∃N:St->Hp->Prop,(∀σ' H',N σ' H'->∃m',m'<m/\W (i+1) m' σ' H')/\∀x H',(Itr lo n).yld i H x H'->g x σ H' λσ2 H2=>tb {D with nx:=N,ct:=N,bk:=D.nx} σ2 H2):=by
 refine⟨λi m σ H=>m=n-i/\i<=n/\Pv i σ H,⟨n,by simp,Nat.zero_le _,h0⟩,?_⟩
 rintro i m σ H ⟨rfl,hi,p⟩
 by_cases hlt:i<n
 ·refine .inr ⟨hlt,Pv (i+1),λσ' H' p'=>⟨n-(i+1),by omega,rfl,hlt,p'⟩,λx H' y=>?_⟩
  obtain⟨e,y⟩:=y
  subst e y
  exact hs i σ _ hlt p
 ·have e:i=n:=by omega
  subst e
  exact .inl ⟨Nat.le_refl _,hd σ H p⟩
end L2
namespace L2
open PySem PySem.Spec PyProof.Rows
abbrev R2:=V->V->Hp->VK->Prop
noncomputable def OpR (X:Cx)(f:Value->Value->Sem Value)(r:R2):Prop :=
 ∀(pins:List (Addr×Obj)) (s:Shared) (σ:St) (H:Hp) (x y:V) (v u:Value) (Q:VK),Inv X pins σ H s->RelV x v->RelV y u->r x y H Q->
  wpAny (model X.prog X.w) X.A (f v u) (EP X pins σ Q) X.xe s
noncomputable def Rn (X:Cx)(f:Value)(r:List V->Hp->VK->Prop):Prop :=
 ∀(pins:List (Addr×Obj)) (s:Shared) (σ:St) (H:Hp) (xs:List V) (us:List Value) (Q:VK),Inv X pins σ H s->Vals xs us->r xs H Q->
  wpAny (model X.prog X.w) X.A (call f us) (EP X pins σ Q) X.xe s
noncomputable def tOp (r:R2)(ta tb:TE):TE:=λσ H Q=>ta σ H λx H1=>tb σ H1 λy H2=>r x y H2 Q
noncomputable def rI (C:Int->Int->Prop)(g:Int->Int->V):R2:=λx y H Q=>∃i j,x=.int i/\y=.int j/\C i j/\Q (g i j) H
noncomputable def rI0 (g:Int->Int->V):R2:=λx y H Q=>∃i j,x=.int i/\y=.int j/\Q (g i j) H
noncomputable section
variable {X:Cx}{a b c:Expr}{ta tb tc:TE}{pos:Pos}
theorem binT (ha:PE X a ta)(hb:PE X b tb){pins:List (Addr×Obj)}{s:Shared}{σ:St}{H:Hp}{R:V->V->Hp->Prop}(I:Inv X pins σ H s)
  (h:ta σ H λx H1=>tb σ H1 λy H2=>R x y H2) {Q:Value->Shared->Prop} {f:Value->Value->Sem Value}
  (hf:∀v u s2 x y H2,Inv X pins σ H2 s2->RelV x v->RelV y u->R x y H2->wpAny (model X.prog X.w) X.A (f v u) Q X.xe s2) :
  wpAny (model X.prog X.w) X.A (eval a X.env) (λv s₁=>wpAny (model X.prog X.w) X.A (eval b X.env) (λu s₂=>wpAny (model X.prog X.w) X.A (f v u) Q X.xe s₂) X.xe s₁) X.xe s:=by
 refine thn (ha pins s σ H _ I h) λv s1 ⟨x,H1,I1,r1,q1⟩=>?_
 refine thn (hb pins s1 σ H1 _ I1 q1) λu s2 ⟨y,H2,I2,r2,q2⟩=>?_
 exact hf v u s2 x y H2 I2 r1 r2 q2
theorem Ym {op:Operator}{r:R2}(ho:OpR X (binaryOp op) r)(ha:PE X a ta)(hb:PE X b tb):PE X (.BinOp a op b pos) (tOp r ta tb):=by
 intro pins s σ H Q I h
 exact wpAny_BinOp (binT ha hb I h λv u s2 x y H2 I2 rx ry q=>ho pins s2 σ H2 x y v u Q I2 rx ry q)
theorem opI {f:Value->Value->Sem Value}{C:Int->Int->Prop}{g:Int->Int->Int}
  (rule:∀(i j:Int) (t u:Tok) (s:Shared) (Q:Value->Shared->Prop) (E:Value->Shared->Prop),C i j->Q (.int (g i j) s.toks) {s with toks:=s.toks+1}->wpAny (model X.prog X.w) X.A (f (.int i t) (.int j u)) Q E s) :
  OpR X f (rI C λi j=>.int (g i j)):=by
 intro pins s σ H x y v u Q I rx ry h
 obtain⟨i,j,rfl,rfl,hc,q⟩:=h
 obtain⟨t,rfl⟩:=rx
 obtain⟨t',rfl⟩:=ry
 exact rule i j t t' s _ _ hc ⟨.int (g i j),H,I.tok _,⟨_,rfl⟩,q⟩
theorem opI0 {f:Value->Value->Sem Value}{g:Int->Int->Int}
  (rule:∀(i j:Int) (t u:Tok) (s:Shared) (Q:Value->Shared->Prop) (E:Value->Shared->Prop),Q (.int (g i j) s.toks) {s with toks:=s.toks+1}->wpAny (model X.prog X.w) X.A (f (.int i t) (.int j u)) Q E s) :
  OpR X f (rI0 λi j=>.int (g i j)):=by
 intro pins s σ H x y v u Q I rx ry h
 obtain⟨i,j,rfl,rfl,q⟩:=h
 obtain⟨t,rfl⟩:=rx
 obtain⟨t',rfl⟩:=ry
 exact rule i j t t' s _ _ ⟨.int (g i j),H,I.tok _,⟨_,rfl⟩,q⟩
theorem opB0 {f:Value->Value->Sem Value}{g:Int->Int->Bool}
  (rule:∀(i j:Int) (t u:Tok) (s:Shared) (Q:Value->Shared->Prop) (E:Value->Shared->Prop),Q (.bool (g i j)) s->wpAny (model X.prog X.w) X.A (f (.int i t) (.int j u)) Q E s) :
  OpR X f (rI0 λi j=>.bl (g i j)):=by
 intro pins s σ H x y v u Q I rx ry h
 obtain⟨i,j,rfl,rfl,q⟩:=h
 obtain⟨t,rfl⟩:=rx
 obtain⟨t',rfl⟩:=ry
 exact rule i j t t' s _ _ ⟨.bl (g i j),H,I,rfl,q⟩
noncomputable def CMul (i j:Int):Prop:=(-(2 ^ 64)<i/\i<2 ^ 64)\/(-(2 ^ 64)<j/\j<2 ^ 64)
theorem CMul.ok {i j:Int}(h:CMul i j):IntMulOk i j:=by
 rcases h with⟨h1,h2⟩ | ⟨h1,h2⟩
 ·exact .of_left (intBits_le_64 h1 h2)
 ·exact .of_right (intBits_le_64 h1 h2)
theorem Xe:OpR X (binaryOp .Add) (rI0 λi j=>.int (i+j)):=opI0 λ_ _ _ _ _ _ _ q=>add_int q
theorem Ze1:OpR X (binaryOp .Sub) (rI0 λi j=>.int (i-j)):=opI0 λ_ _ _ _ _ _ _ q=>sub_int q
theorem Zkh:OpR X (binaryOp .Mult) (rI CMul λi j=>.int (i*j)):=opI λ_ _ _ _ _ _ _ hc q=>mul_int q hc.ok
theorem Z6i:OpR X (binaryOp .Mod) (rI (λ_ j=>0<j) λi j=>.int (i % j)):=opI λi j _ _ _ _ _ hc q=>by
 have h1:(0:Int)<j:=hc
 exact mod_int' (by omega) (by rw[Int.fmod_eq_emod_of_nonneg i (by omega)];exact q)
end
noncomputable def scal:V->V->Bool
 |.non,.non=>true | .non,.int _=>true | .int _,.non=>true | .non,.bl _=>true | .bl _,.non=>true | .non,.str _=>true | .str _,.non=>true
 |.int _,.int _=>true | .bl _,.bl _=>true | .str _,.str _=>true | .byt _,.byt _=>true
 |.int _,.str _=>true | .str _,.int _=>true | .bl _,.str _=>true | .str _,.bl _=>true
 |_,_=>false
noncomputable def rEq:R2:=λx y H Q=>scal x y=true/\Q (.bl (decide (x=y))) H
noncomputable def rNe:R2:=λx y H Q=>scal x y=true/\Q (.bl (!decide (x=y))) H
theorem Ze2 {i j:Int}:decide (V.int i=V.int j)=(i==j):=by
 rw[Bool.eq_iff_iff]
 simp
theorem Ze3 {i j:Bool}:decide (V.bl i=V.bl j)=(i==j):=by
 rw[Bool.eq_iff_iff]
 simp
theorem Ze4 {i j:Str}:decide (V.str i=V.str j)=(i==j):=by
 rw[Bool.eq_iff_iff]
 simp
theorem Ze5 {i j:Array UInt8}:decide (V.byt i=V.byt j)=(i.toList==j.toList):=by
 rw[Bool.eq_iff_iff]
 cases i
 cases j
 simp
noncomputable section
variable {X:Cx}{a b c:Expr}{ta tb tc:TE}{pos:Pos}
theorem Yk {pins:List (Addr×Obj)}{σ:St}{H:Hp}{s:Shared}{Q:VK}{k k':Bool}(I:Inv X pins σ H s)(q:Q (.bl k) H)(e:k=k'):EP X pins σ Q (.bool k') s:=by
 subst e
 exact⟨.bl k,H,I,rfl,q⟩
theorem Ro:OpR X (compareOp .Eq) rEq:=by
 intro pins s σ H x y v u Q I rx ry h
 obtain⟨hs,q⟩:=h
 cases x with
 |non =>
  cases rx
  cases y with
  |non=>cases ry;exact PySem.EqNone.eq_none_none (Yk I q (by simp))
  |bl j=>cases ry;exact PySem.EqNone.eq_none_bool (Yk I q (by simp))
  |int j=>obtain⟨t',rfl⟩:=ry;exact PySem.EqNone.eq_none_int (Yk I q (by simp))
  |str j=>obtain⟨t',rfl⟩:=ry;exact PySem.EqNone.eq_none_str (Yk I q (by simp))
  |_=>exact absurd (show false=true from hs) Bool.false_ne_true
 |bl i =>
  cases rx
  cases y with
  |non=>cases ry;exact PySem.EqNone.eq_bool_none (Yk I q (by simp))
  |bl j=>cases ry;exact eq_bool (Yk I q Ze3)
  |str j=>obtain⟨t',rfl⟩:=ry;exact PySem.EqMixed.eq_bool_str (Yk I q (by simp))
  |_=>exact absurd (show false=true from hs) Bool.false_ne_true
 |int i =>
  obtain⟨t,rfl⟩:=rx
  cases y with
  |non=>cases ry;exact PySem.EqNone.eq_int_none (Yk I q (by simp))
  |int j=>obtain⟨t',rfl⟩:=ry;exact eq_int (Yk I q Ze2)
  |str j=>obtain⟨t',rfl⟩:=ry;exact PySem.EqMixed.eq_int_str (Yk I q (by simp))
  |_=>exact absurd (show false=true from hs) Bool.false_ne_true
 |str i =>
  obtain⟨t,rfl⟩:=rx
  cases y with
  |non=>cases ry;exact PySem.EqNone.eq_str_none (Yk I q (by simp))
  |bl j=>cases ry;exact PySem.EqMixed.eq_str_bool (Yk I q (by simp))
  |int j=>obtain⟨t',rfl⟩:=ry;exact PySem.EqMixed.eq_str_int (Yk I q (by simp))
  |str j=>obtain⟨t',rfl⟩:=ry;exact eq_str (Yk I q Ze4)
  |_=>exact absurd (show false=true from hs) Bool.false_ne_true
 |byt i =>
  obtain⟨t,rfl⟩:=rx
  cases y with
  |byt j=>obtain⟨t',rfl⟩:=ry;exact PySem.W.eq_bytes (Yk I q Ze5)
  |_=>exact absurd (show false=true from hs) Bool.false_ne_true
 |_=>cases y <;> exact absurd (show false=true from hs) Bool.false_ne_true
theorem Zj2:OpR X (compareOp .NotEq) rNe:=by
 intro pins s σ H x y v u Q I rx ry h
 obtain⟨hs,q⟩:=h
 cases x with
 |non =>
  cases rx
  cases y with
  |non=>cases ry;exact PySem.EqNone.ne_none_none (Yk I q (by simp))
  |bl j=>cases ry;exact PySem.EqNone.ne_none_bool (Yk I q (by simp))
  |int j=>obtain⟨t',rfl⟩:=ry;exact PySem.EqNone.ne_none_int (Yk I q (by simp))
  |str j=>obtain⟨t',rfl⟩:=ry;exact PySem.EqNone.ne_none_str (Yk I q (by simp))
  |_=>exact absurd (show false=true from hs) Bool.false_ne_true
 |bl i =>
  cases rx
  cases y with
  |non=>cases ry;exact PySem.EqNone.ne_bool_none (Yk I q (by simp))
  |bl j=>cases ry;exact ne_bool (Yk I q (congrArg not Ze3))
  |str j=>obtain⟨t',rfl⟩:=ry;exact PySem.EqMixed.ne_bool_str (Yk I q (by simp))
  |_=>exact absurd (show false=true from hs) Bool.false_ne_true
 |int i =>
  obtain⟨t,rfl⟩:=rx
  cases y with
  |non=>cases ry;exact PySem.EqNone.ne_int_none (Yk I q (by simp))
  |int j=>obtain⟨t',rfl⟩:=ry;exact ne_int (Yk I q (congrArg not Ze2))
  |str j=>obtain⟨t',rfl⟩:=ry;exact PySem.EqMixed.ne_int_str (Yk I q (by simp))
  |_=>exact absurd (show false=true from hs) Bool.false_ne_true
 |str i =>
  obtain⟨t,rfl⟩:=rx
  cases y with
  |non=>cases ry;exact PySem.EqNone.ne_str_none (Yk I q (by simp))
  |bl j=>cases ry;exact PySem.EqMixed.ne_str_bool (Yk I q (by simp))
  |int j=>obtain⟨t',rfl⟩:=ry;exact PySem.EqMixed.ne_str_int (Yk I q (by simp))
  |str j=>obtain⟨t',rfl⟩:=ry;exact ne_str (Yk I q (congrArg not Ze4))
  |_=>exact absurd (show false=true from hs) Bool.false_ne_true
 |byt i =>
  obtain⟨t,rfl⟩:=rx
  cases y with
  |byt j=>obtain⟨t',rfl⟩:=ry;exact PySem.W.ne_bytes (Yk I q (congrArg not Ze5))
  |_=>exact absurd (show false=true from hs) Bool.false_ne_true
 |_=>cases y <;> exact absurd (show false=true from hs) Bool.false_ne_true
theorem Z9q:OpR X (compareOp .Lt) (rI0 λi j=>.bl (decide (i<j))):=opB0 λ_ _ _ _ _ _ _ q=>lt_int q
theorem Ol:OpR X (compareOp .LtE) (rI0 λi j=>.bl (decide (i<=j))):=opB0 λ_ _ _ _ _ _ _ q=>le_int q
theorem Zgx:OpR X (compareOp .Gt) (rI0 λi j=>.bl (decide (j<i))):=opB0 λ_ _ _ _ _ _ _ q=>gt_int q
theorem Zlo:OpR X (compareOp .GtE) (rI0 λi j=>.bl (decide (j<=i))):=opB0 λ_ _ _ _ _ _ _ q=>ge_int q
theorem Xp:OpR X (compareOp .Is) (λx y H Q=>y=.non/\Q (.bl (decide (x=.non))) H):=by
 intro pins s σ H x y v u Q I rx ry h
 obtain⟨rfl,q⟩:=h
 cases ry
 refine is_none_gen (Yk I q ?_)
 cases x <;> first
  |(cases rx;rfl)
  |(obtain⟨t,rfl⟩:=rx;rfl)
theorem Z9r:OpR X (compareOp .IsNot) (λx y H Q=>y=.non/\Q (.bl (!decide (x=.non))) H):=by
 intro pins s σ H x y v u Q I rx ry h
 obtain⟨rfl,q⟩:=h
 cases ry
 refine isnot_none_gen (Yk I q ?_)
 cases x <;> first
  |(cases rx;rfl)
  |(obtain⟨t,rfl⟩:=rx;rfl)
theorem Xs (b:Expr){op:CmpOp}(h:op≠.In:=by decide)(h2:op≠.NotIn:=by decide):behindInMarks op b=false:=by
 have e1:(op==CmpOp.In)=false:=by cases op <;> first | rfl | exact absurd rfl h
 have e2:(op==CmpOp.NotIn)=false:=by cases op <;> first | rfl | exact absurd rfl h2
 cases b <;> simp[behindInMarks,e1,e2]
theorem Xx {op:CmpOp}{r:R2}(ho:OpR X (compareOp op) r)(ha:PE X a ta)(hb:PE X b tb)(hm:behindInMarks op b=false):PE X (.Compare a [op] [b] pos) (tOp r ta tb):=by
 intro pins s σ H Q I h
 exact wpAny_Compare1 (binT ha hb I h λv u s2 x y H2 I2 rx ry q=>ho pins s2 σ H2 x y v u Q I2 rx ry q) hm
noncomputable def Zgy (t:TE):TT:=λσ H Q=>t σ H λx H'=>∃k,x=.bl k/\Q k H'
theorem Zo {op:CmpOp}{r:R2}(ho:OpR X (compareOp op) r)(ha:PE X a ta)(hb:PE X b tb)(hm:behindInMarks op b=false):PT X (.Compare a [op] [b] pos) (Zgy (tOp r ta tb)):=by
 intro pins s σ H Q I h
 refine wpAny_isTrue_Compare1 (thn (ha pins s σ H _ I h) λv s1 ⟨x,H1,I1,r1,q1⟩=>thn (hb pins s1 σ H1 _ I1 q1) λu s2 ⟨y,H2,I2,r2,q2⟩ =>
  thn (ho pins s2 σ H2 x y v u _ I2 r1 r2 q2) λc s3 ⟨z,H3,I3,r3,k,e,q3⟩=>?_) hm
 subst e
 cases r3
 exact wpAny_truthy_bool ⟨H3,I3,q3⟩
noncomputable def Ze6 (r r':R2)(ta tb tc:TE):TE:=λσ H Q=>ta σ H λx H1=>tb σ H1 λy H2=>r x y H2 λz H3=>∃k,z=.bl k/\
 (if k=true then tc σ H3 λw' H4=>r' y w' H4 Q else Q (.bl false) H3)
theorem Z3u {op op':CmpOp}{r r':R2}(ho:OpR X (compareOp op) r)(ho':OpR X (compareOp op') r')(ha:PE X a ta)(hb:PE X b tb)(hc:PE X c tc)
  (hm:lastMarks [op,op'] [b,c]=false:=by with_unfolding_all rfl):PE X (.Compare a [op,op'] [b,c] pos) (Ze6 r r' ta tb tc):=by
 intro pins s σ H Q I h
 refine Compare_chain (thn (ha pins s σ H _ I h) λv s1 ⟨x,H1,I1,r1,q1⟩=>chain_link (thn (hb pins s1 σ H1 _ I1 q1) λu s2 ⟨y,H2,I2,r2,q2⟩ =>
  thn (ho pins s2 σ H2 x y v u _ I2 r1 r2 q2) λd s3 ⟨z,H3,I3,r3,k,e,q3⟩=>?_)) hm
 subst e
 cases r3
 refine wpAny_truthy_bool ?_
 cases k with
 |false=>exact ite_ff ⟨.bl false,H3,I3,rfl,q3⟩
 |true=>exact ite_tt (chain_last (thn (hc pins s3 σ H3 _ I3 q3) λw' s4 ⟨z',H4,I4,r4,q4⟩=>ho' pins s4 σ H4 y z' u w' Q I4 r2 r4 q4))
theorem Jf {op op':CmpOp}{r r':R2}(ho:OpR X (compareOp op) r)(ho':OpR X (compareOp op') r')(ha:PE X a ta)(hb:PE X b tb)(hc:PE X c tc)
  (hm:lastMarks [op,op'] [b,c]=false:=by with_unfolding_all rfl):PT X (.Compare a [op,op'] [b,c] pos) (Zgy (Ze6 r r' ta tb tc)):=by
 intro pins s σ H Q I h
 refine isTrue_chain (thn (ha pins s σ H _ I h) λv s1 ⟨x,H1,I1,r1,q1⟩=>test_link (thn (hb pins s1 σ H1 _ I1 q1) λu s2 ⟨y,H2,I2,r2,q2⟩ =>
  thn (ho pins s2 σ H2 x y v u _ I2 r1 r2 q2) λd s3 ⟨z,H3,I3,r3,k,e,q3⟩=>?_)) hm
 subst e
 cases r3
 refine wpAny_truthy_bool ?_
 cases k with
 |false =>
  obtain⟨k',e',q'⟩:=q3
  cases e'
  exact ite_ff ⟨H3,I3,q'⟩
 |true =>
  refine ite_tt (test_last (thn (hc pins s3 σ H3 _ I3 q3) λw' s4 ⟨z',H4,I4,r4,q4⟩=>thn (ho' pins s4 σ H4 y z' u w' _ I4 r2 r4 q4) λd' s5 ⟨z2,H5,I5,r5,k2,e2,q5⟩=>?_))
  subst e2
  cases r5
  exact wpAny_truthy_bool ⟨H5,I5,q5⟩
theorem Zb0:(sizeLine:Nat)<2 ^ 63:=by rw[sizeLine_eq];decide
theorem Zgz {x:V}{us:List Value}(r:Vals [x] us):∃u,us=[u]/\RelV x u:=by
 cases r with
 |cons r1 r2=>cases r2;exact⟨_,rfl,r1⟩
theorem Zki {x y:V}{us:List Value}(r:Vals [x,y] us):∃u w',us=[u,w']/\RelV x u/\RelV y w':=by
 cases r with
 |cons r1 r2 =>
  cases r2 with
  |cons r3 r4=>cases r4;exact⟨_,_,rfl,r1,r3⟩
theorem Z6j (hc:X.calm=true):Rn X (.builtin "max") (λxs H Q=>∃i j,xs=[.int i,.int j]/\Q (.int (if j > i then j else i)) H):=by
 intro pins s σ H xs us Q I r h
 obtain⟨i,j,rfl,q⟩:=h
 obtain⟨u,w',rfl,⟨t,rfl⟩,⟨t',rfl⟩⟩:=Zki r
 refine max_two_ints (I.ok.hd hc) λh' tk k=>⟨_,H,I.kept k,?_,q⟩
 by_cases hj:j > i
 ·rw[if_pos hj,if_pos hj];exact⟨_,rfl⟩
 ·rw[if_neg hj,if_neg hj];exact⟨_,rfl⟩
theorem Ze7 (hc:X.calm=true):Rn X (.builtin "min") (λxs H Q=>∃i j,xs=[.int i,.int j]/\Q (.int (if j<i then j else i)) H):=by
 intro pins s σ H xs us Q I r h
 obtain⟨i,j,rfl,q⟩:=h
 obtain⟨u,w',rfl,⟨t,rfl⟩,⟨t',rfl⟩⟩:=Zki r
 refine min_two_ints (I.ok.hd hc) λh' tk k=>⟨_,H,I.kept k,?_,q⟩
 by_cases hj:j<i
 ·rw[if_pos hj,if_pos hj];exact⟨_,rfl⟩
 ·rw[if_neg hj,if_neg hj];exact⟨_,rfl⟩
end
end L2
namespace L2
open PySem PySem.Spec PyProof.Rows
structure ObjM (h:Heap)(x dx C:Addr)(mA:Str->Option Value):Prop where
 obj:h.get? x=some (PySem.W.instObj C dx)
 ns:h.Ns1 dx mA
 ne:dx≠x
theorem Ze8 {h:Heap}{dx:Addr}{mA:Str->Option Value}(n:h.Ns1 dx mA):∃od,h.get? dx=some od/\∀name,PySem.W.lookIn name od=some (mA name):=by
 obtain⟨o,es,ep,ho,hd,hk,_,hm⟩:=n
 refine⟨o,ho,λname=>?_⟩
 have e:=hm name
 unfold nsFind findBy at e
 rw[<-Array.find?_toList]at e
 unfold PySem.W.lookIn
 rw[hd]
 dsimp only
 split
 ·rename_i y q
  rw[q]at e
  exact congrArg some e
 ·rename_i q
  rw[q]at e
  have a:es.toList.any (·.refKey)=false:=by
   rw[List.any_eq_false]
   intro y hy
   obtain⟨z,t,hkey⟩:=hk y (Array.mem_toList_iff.mp hy)
   simp[DictEntry.refKey,hkey]
  have a':¬es.toList.any (·.refKey)=true:=by rw[a];exact Bool.false_ne_true
  rw[if_neg a']
  exact congrArg some e
theorem ObjM.look {h:Heap}{x dx C:Addr}{mA:Str->Option Value}(I:ObjM h x dx C mA):∃od,PySem.W.InstAt h x (PySem.W.instObj C dx) C (some od)/\∀name,PySem.W.lookIn name od=some (mA name) :=
 let ⟨od,ho,hl⟩:=Ze8 I.ns
 ⟨od,⟨I.obj,rfl,rfl,ho⟩,hl⟩
noncomputable section
variable {prog:Program}{w:World}{A:Around}{E:Value->Shared->Prop}{s:Shared}{K:PySem.W.Frag}{x dx C f:Addr}{mA:Str->Option Value}{name:Str}{v:Value}
theorem Zj3 {expr:Bool}{Q:Value->Shared->Prop}(X:K.In s.heap)(I:ObjM s.heap x dx C mA)(hg:PySem.W.plainGet K C name=true)(hh:PySem.W.hasDictIn K C=true)
  (ha:PySem.W.findIn K (.ref C) name=some none) (hv:mA name=some v) (hv':PySem.W.handedIn v=true) (h:Q v {s with toks:=s.toks+1}) :
  wpAny (model prog w) A (getAttr (.ref x) name expr) Q E s:=by
 obtain⟨od,J,hl⟩:=I.look
 exact PySem.W.get_value X J (PySem.W.plainGet_of hg).1 (PySem.W.findObj_own hh ha rfl (by rw[hl,hv])) hv' h
theorem Zj4 {ns:List Str}{Q:Unit->Shared->Prop}(X:K.In s.heap)(I:ObjM s.heap x dx C mA)
  (hs:PySem.W.findIn K (.ref C) "__setattr__"=some (some (.builtin "object.__setattr__"))) (hp:PySem.W.plainOver K C=true) (ht:PySem.W.takerIn K C name=some none) (hh:PySem.W.hasDictIn K C=true)
  (hw:PySem.Within mA ns) (hsz:ns.length<=sizeLine)
  (h:∀h',ObjM h' x dx C (λy=>if y=name then some v else mA y)->Heap.SameBut dx s.heap h'->Q () {s with heap:=h',toks:=s.toks+2}) :
  wpAny (model prog w) A (setAttr (.ref x) name v) Q E s:=by
 obtain⟨od,J,hl⟩:=I.look
 refine PySem.W.set_plain X J hs (PySem.W.osa_open (s:={s with toks:=s.toks+1}) (r:=none) X J hp ht λb=>?_)
 obtain⟨cd,hc,hd'⟩:=PySem.W.any_some hh
 have hx:s.heap.get? x=some ⟨.ref C,some dx,.plain,#[]⟩:=I.obj
 refine wpAny_bind (wpAny_pure (wpAny_bind (wpAny_bind (wpAny_loadPart hx (wpAny_bind (PySem.W.Looks.here (s:={s with toks:=s.toks+1}) (PySem.W.looks_clsIn X hc) ?_))))))
 rw[hd']
 refine wpAny_pure (a:=some dx) (wpAny_bind (wpAny_pure (wpAny_bind ?_)))
 refine wpAny_nsSet1 (s:={s with toks:=s.toks+1}) I.ns λh' hn2 hs2=>?_
 obtain⟨oD,esD,epD,hoD,hdD,hcD⟩:=hn2.count (PySem.Within.cons name v hw)
 refine wpAny_bind (wpAny_lookBehind hoD (by rw[hdD];exact pastItsLine_dict (Nat.le_trans hcD (by rw[List.length_cons];omega))) ?_)
 exact wpAny_pure (h _ ⟨(hs2.2 _ (Ne.symm I.ne)).trans I.obj,hn2,I.ne⟩ hs2)
theorem Zh0 {R:Result->Shared->Prop}{vs:List Value}{kw:List (Str×Value)}(X:K.In s.heap)(hm:PySem.W.makesIn K C=true)
  (hi:PySem.W.findIn K (.ref C) "__init__"=some (some (.ref f))) (hf:PySem.W.typeIn K (.ref f)=some (.type "function"))
  (h:codeAny (model prog w) (A.under (.builtin "type.__call__" ⟨.ref C::vs,kw⟩)) (.call (.ref f) ⟨.ref (s.heap.objs.size+1)::vs,kw⟩) (PySem.W.InitBack (s.heap.objs.size+1) R)
   {s with heap:=(s.heap.push PySem.W.emptyDict).push (PySem.W.instObj C s.heap.objs.size)}) :
  codeAny (model prog w) A (.call (.ref C) ⟨vs,kw⟩) R s:=by
 obtain⟨hh,g,d,t,os⟩:=s
 exact PySem.W.make_core (PySem.W.makes_of X hm) (PySem.W.looks_findIn X hi) (λself=>PySem.W.bind_fn X self hf) (.inl rfl) h
end
noncomputable def putF (f:Str)(v:V):List (Str×V)->List (Str×V)
 |[]=>[(f,v)]
 |(g,x)::r=>if g=f then(g,v)::r else(g,x)::putF f v r
theorem Zz (f g:Str)(v:V):∀fs:List (Str×V),(putF f v fs).lookup g=if g=f then some v else fs.lookup g
 |[]=>by
  show List.lookup g [(f,v)]=_
  by_cases h:g=f
  ·have hb:(g==f)=true:=beq_iff_eq.mpr h
   simp only[List.lookup,hb,if_pos h]
  ·have hb:(g==f)=false:=beq_eq_false_iff_ne.mpr h
   simp only[List.lookup,hb,if_neg h]
 |(k,x)::r=>by
  have ih:=Zz f g v r
  rw[show putF f v ((k,x)::r)=(if k=f then(k,v)::r else(k,x)::putF f v r) from rfl]
  by_cases hk:k=f
  ·rw[if_pos hk]
   by_cases h:g=k
   ·have hb:(g==k)=true:=beq_iff_eq.mpr h
    simp only[List.lookup,hb,if_pos (h.trans hk)]
   ·have hb:(g==k)=false:=beq_eq_false_iff_ne.mpr h
    simp only[List.lookup,hb,if_neg (λe:g=f=>h (e.trans hk.symm))]
  ·rw[if_neg hk]
   by_cases h:g=k
   ·have hb:(g==k)=true:=beq_iff_eq.mpr h
    simp only[List.lookup,hb,if_neg (λe:g=f=>hk (h.symm.trans e))]
   ·have hb:(g==k)=false:=beq_eq_false_iff_ne.mpr h
    simp only[List.lookup,hb]
    exact ih
theorem Jq (f:Str)(v:V):∀fs:List (Str×V),f∈(putF f v fs).map (·.1)/\∀g,g∈fs.map (·.1)->g∈(putF f v fs).map (·.1)
 |[]=>⟨by simp[putF],λg h=>by simp at h⟩
 |(k,x)::r=>by
  obtain⟨i1,i2⟩:=Jq f v r
  rw[show putF f v ((k,x)::r)=(if k=f then(k,v)::r else(k,x)::putF f v r) from rfl]
  by_cases hk:k=f
  ·rw[if_pos hk]
   subst hk
   exact⟨by simp,λg h=>by simpa using h⟩
  ·rw[if_neg hk]
   refine⟨?_,λg h=>?_⟩
   ·rw[List.map_cons]
    exact List.mem_cons_of_mem _ i1
   ·rw[List.map_cons]at h ⊢
    rcases List.mem_cons.mp h with e | e
    ·exact List.mem_cons.mpr (.inl e)
    ·exact List.mem_cons_of_mem _ (i2 g e)
theorem Jr (f:Str)(v:V):∀fs:List (Str×V),(putF f v fs).length<=fs.length+1
 |[]=>by simp[putF]
 |(k,x)::r=>by
  have ih:=Jr f v r
  rw[show putF f v ((k,x)::r)=(if k=f then(k,v)::r else(k,x)::putF f v r) from rfl]
  by_cases hk:k=f
  ·rw[if_pos hk,List.length_cons,List.length_cons];omega
  ·rw[if_neg hk,List.length_cons,List.length_cons];omega
theorem RelO.some_of {v:V}{o:Option Value}(r:RelO (some v) o):∃u,o=some u/\RelV v u:=by
 cases o with
 |none=>exact(show False from r).elim
 |some u=>exact⟨u,rfl,r⟩
theorem Ze9 {v:V}{u:Value}(r:RelV v u):PySem.W.handedIn u=true:=by
 cases v with
 |non=>cases (show u=Value.none from r);rfl
 |bl b=>cases (show u=Value.bool b from r);rfl
 |int i=>obtain⟨t,e⟩:=(show ∃t,u=Value.int i t from r);cases e;rfl
 |str x=>obtain⟨t,e⟩:=(show ∃t,u=Value.str x t from r);cases e;rfl
 |byt b=>obtain⟨t,e⟩:=(show ∃t,u=Value.bytes b t from r);cases e;rfl
 |flt b=>obtain⟨t,e⟩:=(show ∃t,u=Value.float b t from r);cases e;rfl
 |ref a=>cases (show u=Value.ref a from r);rfl
 |ty n=>cases (show u=Value.type n from r);rfl
noncomputable section
variable {P:Program}{w:World}{H H':Hp}{h h':Heap}{a C dx:Addr}{fs fs':List (Str×V)}
theorem Zea (hok:HOk P w H h)(e:H a=some (.ins C dx fs)):∃mA,ObjM h a dx C mA/\(∀f,RelO (fs.lookup f) (mA f))/\PySem.Within mA (fs.map (·.1))/\fs.length<=1000/\H dx=some (.own a):=by
 obtain⟨d,z,ne,ob,mA,n,r,q⟩:=(show ObjOk P w H h a (.ins C dx fs) from hok a _ e)
 exact⟨mA,⟨ob,n,ne⟩,r,q,z,d⟩
end
structure Cls (K:PySem.W.Frag)(C:Addr):Prop where
 pg:PySem.W.plainGet K C Str.empty=true
 hd:PySem.W.hasDictIn K C=true
 po:PySem.W.plainOver K C=true
 sa:PySem.W.findIn K (.ref C) "__setattr__"=some (some (.builtin "object.__setattr__"))
theorem Cls.get {K:PySem.W.Frag}{C:Addr}(c:Cls K C)(f:Str):PySem.W.plainGet K C f=true:=c.pg
noncomputable def NoAttr (K:PySem.W.Frag)(C:Addr)(f:Str):Prop:=PySem.W.findIn K (.ref C) f=some none
theorem NoAttr.taker {K:PySem.W.Frag}{C:Addr}{f:Str}(n:NoAttr K C f):PySem.W.takerIn K C f=some none:=by
 unfold PySem.W.takerIn
 rw[show PySem.W.findIn K (.ref C) f=some none from n]
 rfl
noncomputable section
variable {X:Cx}{pins:List (Addr×Obj)}{σ:St}{H:Hp}{s:Shared}{a C dx:Addr}{fs:List (Str×V)}{f:Str}{v:V}{A:Around}{E:Value->Shared->Prop}
theorem Zce {b:Bool}{Q:Value->Shared->Prop}(I:Inv X pins σ H s)(e:H a=some (.ins C dx fs))(c:Cls X.K C)(n:NoAttr X.K C f)(l:fs.lookup f=some v)
  (h:∀u s',Inv X pins σ H s'->RelV v u->Q u s'):wpAny (model X.prog X.w) A (getAttr (.ref a) f b) Q E s:=by
 obtain⟨mA,O,r,_,_,_⟩:=Zea I.hok e
 obtain⟨u,hu,ru⟩:=RelO.some_of (v:=v) (o:=mA f) (by rw[<-l];exact r f)
 exact Zj3 I.kIn O (c.get f) c.hd n hu (Ze9 ru) (h u _ (I.tok _) ru)
theorem Zcf {y:V}{u:Value}{Q:Unit->Shared->Prop}(I:Inv X pins σ H s)(e:H a=some (.ins C dx fs))(c:Cls X.K C)(n:NoAttr X.K C f)(hl:fs.length<1000)(ry:RelV y u)
  (h:∀s',Inv X pins σ (upd H a (.ins C dx (putF f y fs))) s'->Q () s'):wpAny (model X.prog X.w) A (setAttr (.ref a) f u) Q E s:=by
 obtain⟨mA,O,r,wi,_,ho⟩:=Zea I.hok e
 have hz:(fs.map (·.1)).length<=sizeLine:=by rw[List.length_map,sizeLine_eq];omega
 refine Zj4 I.kIn O c.sa c.po n.taker c.hd wi hz λh' O' sb=>h _ ?_
 have hd:∃o,h'.get? dx=some o:=let ⟨o,_,_,e',_⟩:=O'.ns;⟨o,e'⟩
 refine I.write (x:=a) (e:=dx) (by rw[e];exact True.intro) (.inr ho) (λb q hb z=>(sb.2 b hb).trans z) hd ?_
 refine⟨by rw[Zk O.ne];exact ho,?_,O.ne,O'.obj,_,O'.ns,λg=>?_,λg hg=>?_⟩
 ·have:=Jr f y fs;omega
 ·show RelO ((putF f y fs).lookup g) (if g=f then some u else mA g)
  rw[Zz]
  by_cases q:g=f
  ·rw[if_pos q,if_pos q];exact ry
  ·rw[if_neg q,if_neg q];exact r g
 ·by_cases q:g=f
  ·rw[q];exact(Jq f y fs).1
  ·refine(Jq f y fs).2 g (wi g λz=>hg ?_)
   show(if g=f then some u else mA g)=none
   rw[if_neg q];exact z
theorem Inv.made (I:Inv X pins σ H s):Inv X pins σ (upd (upd H s.heap.objs.size (.own (s.heap.objs.size+1))) (s.heap.objs.size+1) (.ins C s.heap.objs.size []))
  {s with heap:=(s.heap.push PySem.W.emptyDict).push (PySem.W.instObj C s.heap.objs.size)}:=by
 have e1:(s.heap.push PySem.W.emptyDict).get? s.heap.objs.size=some PySem.W.emptyDict:=Heap.get?_push_size s.heap rfl
 have e2:((s.heap.push PySem.W.emptyDict).push (PySem.W.instObj C s.heap.objs.size)).get? (s.heap.objs.size+1)=some (PySem.W.instObj C s.heap.objs.size):=by
  have:=Heap.get?_push_size (s.heap.push PySem.W.emptyDict) (o:=PySem.W.instObj C s.heap.objs.size) rfl
  rwa [Heap.size_push]at this
 have e3:(s.heap.push PySem.W.emptyDict).Ns s.heap.objs.size (λ_=>none):=⟨PySem.W.emptyDict,#[],_,e1,rfl,(λe he=>absurd he (by simp)),λ_=>rfl⟩
 have I1:=I.laid (a:=s.heap.objs.size) (o:=.own (s.heap.objs.size+1)) (h':=s.heap.push PySem.W.emptyDict) (t':=s.toks) (λb u q=>Heap.get?_push_of_some _ q) (Nat.le_refl _) ⟨_,e1⟩
 refine I1.laid (a:=s.heap.objs.size+1) (o:=.ins C s.heap.objs.size []) (t':=s.toks) (λb u q=>Heap.get?_push_of_some _ q) (Nat.le_of_eq (Heap.size_push _ _)) ?_
 have ne:s.heap.objs.size≠s.heap.objs.size+1:=Nat.ne_of_lt (Nat.lt_succ_self _)
 refine⟨by rw[Zk ne,Ze],Nat.zero_le _,ne,e2,λ_=>none,(Heap.Ns1.of_empty e3).at λo q=>Heap.get?_push_of_some _ q,λ_=>True.intro,λy hy=>absurd rfl hy⟩
theorem Zj5 {prog:Program}{w:World}{env:Env}{e:Expr}{f:Str}{pos:Pos}{s:Shared}{Q:Value->Shared->Prop}(hb:attributeBase e f env (eval e env)=eval e env)
  (h:wpAny (model prog w) A (eval e env) (λo s₁=>wpAny (model prog w) A (getAttr o f true) Q E s₁) E s):wpAny (model prog w) A (eval (.Attribute e f pos) env) Q E s :=
 Attribute_any_ h (by rw[arm_eval_Attribute,hb])
end
noncomputable def tFld (K:PySem.W.Frag)(ta:TE)(f:Str):TE:=λσ H Q=>ta σ H λx H1=>∃a C dx fs v,x=.ref a/\H1 a=some (.ins C dx fs)/\Cls K C/\NoAttr K C f/\fs.lookup f=some v/\Q v H1
noncomputable def sFld (K:PySem.W.Frag)(ta tv:TE)(f:Str):TS:=λD σ H=>tv σ H λy H1=>ta σ H1 λx H2=>∃a C dx fs,x=.ref a/\H2 a=some (.ins C dx fs)/\Cls K C/\NoAttr K C f/\fs.length<1000/\
 D.nx σ (upd H2 a (.ins C dx (putF f y fs)))
noncomputable section
variable {X:Cx}{o e value:Expr}{f:Str}{pos pos' tpos:Pos}{ta tv:TE}
theorem Zh (he:PE X e ta)(hb:attributeBase e f X.env (eval e X.env)=eval e X.env):PE X (.Attribute e f pos) (tFld X.K ta f):=by
 intro pins s σ H Q I h
 refine Zj5 hb (thn (he pins s σ H _ I h) λu s1 ⟨x,H1,I1,rx,a,C,dx,fs,v,ex,ea,c,n,l,q⟩=>?_)
 subst ex
 obtain rfl:u=Value.ref a:=rx
 exact Zce I1 ea c n l λu' s2 I2 ru=>⟨v,H1,I2,ru,q⟩
theorem Yq (ha:PE X o ta)(hv:PE X value tv)(hs:swapsWith value (some (.Attribute o f pos')) pos.line X.env=pure false):PS X (.Assign [.Attribute o f pos'] value pos) (sFld X.K ta tv f):=by
 intro pins s σ H D I h
 refine plainObj_wpAny_Assign_Attribute (thn (hv pins s σ H _ I h) λu s1 ⟨y,H1,I1,ry,q⟩=>thn (ha pins s1 σ H1 _ I1 q) λov s2 ⟨x,H2,I2,rx,a,C,dx,fs,ex,ea,c,n,l,q2⟩=>?_) hs
 subst ex
 obtain rfl:ov=Value.ref a:=rx
 exact Zcf I2 ea c n l ry λs3 I3=>⟨σ,_,I3,q2⟩
end
noncomputable section
variable {X:Cx}{pins:List (Addr×Obj)}{σ:St}{H:Hp}{s:Shared}{A:Around}{E:Value->Shared->Prop}{Q:Value->Shared->Prop}{c:Value}{b:Bool}
end
end L2
namespace L2
open PySem PySem.Spec PyProof.Rows
structure Room (k:Nat)(A:Around):Prop where
 hd:A.handled=none
 dp:A.depth+3*k+5<recursionLimit
 un:A.units+16*k+200<cLine
theorem Room.mono {j k:Nat}{A:Around}(r:Room k A)(h:j<=k):Room j A:=⟨r.hd,by have:=r.dp;omega,by have:=r.un;omega⟩
theorem Room.deeper {k:Nat}{A:Around}(r:Room (k+1) A)(env:Env):Room k (A.deeper env) :=
 ⟨r.hd,by have:=r.dp;show A.depth+1+3*k+5<_;omega,by have:=r.un;show A.units+3+16*k+200<_;omega⟩
theorem Zcg {A:Around}{C:Addr}{us:List Value}{kw:List (Str×Value)}:(A.under (.builtin "type.__call__" ⟨.ref C::us,kw⟩)).depth=A.depth+1:=by
 first | rfl | simp[Around.under,Code.weight,Code.isCreation,Code.isGuard,Code.isCaller,Code.frames,Code.isFrame,guardIds]
theorem Zch {A:Around}{C:Addr}{us:List Value}{kw:List (Str×Value)}:(A.under (.builtin "type.__call__" ⟨.ref C::us,kw⟩)).units=A.units+1:=by
 first | rfl | simp[Around.under,Code.cUnits,Code.frames,Code.isFrame]
theorem Room.make {k:Nat}{A:Around}(r:Room (k+1) A)(C:Addr)(us:List Value)(kw:List (Str×Value)):Room k (A.under (.builtin "type.__call__" ⟨.ref C::us,kw⟩)) :=
 ⟨r.hd,by have:=r.dp;rw[Zcg];omega,by have:=r.un;rw[Zch];omega⟩
theorem Room.depth {k:Nat}{A:Around}(r:Room k A):A.depth<recursionLimit:=by have:=r.dp;omega
theorem Room.units {k:Nat}{A:Around}(r:Room k A):A.units+64<cLine:=by have:=r.un;omega
noncomputable def tNil:TA:=λ_ H Q=>Q [] H
noncomputable def Z6k (ta:TE)(tr:TA):TA:=λσ H Q=>ta σ H λx H1=>tr σ H1 λxs H2=>Q (x::xs) H2
noncomputable section
variable {X:Cx}{e:Expr}{es:List Expr}{te:TE}{t:TA}{pos:Pos}
theorem Zc:PA X [] tNil:=λ_ _ _ _ H Q I h=>Calls.spliced_nil ⟨[],H,I,.nil,h⟩
theorem Za (ha:PE X e te)(hr:PA X es t)(hs:starEach (e::es) X.env=(false,eval e X.env)::starEach es X.env:=by rfl):PA X (e::es) (Z6k te t):=by
 intro pos pins s σ H Q I h
 rw[hs]
 show wpAny _ _ (spliced ((false,eval e X.env)::backTo pos (starEach es X.env))) _ _ s
 refine Calls.spliced_cons (thn (ha pins s σ H _ I h) λu s1 ⟨x,H1,I1,r1,q1⟩=>?_)
 exact thn (hr pos pins s1 σ H1 _ I1 q1) λus s2 ⟨xs,H2,I2,r2,q2⟩=>⟨x::xs,H2,I2,.cons r1 r2,q2⟩
noncomputable def tTup (t:TA):TE:=λσ H Q=>t σ H λxs H1=>xs.length<=sizeLine/\∀p,H1 p=none->Q (.ref p) (upd H1 p (.tup xs))
noncomputable def tLst (t:TA):TE:=λσ H Q=>t σ H λxs H1=>xs.length<=sizeLine/\∀p,H1 p=none->Q (.ref p) (upd H1 p (.lst xs))
theorem Pc {x1}(h:PA X es t):PE X (.Tuple es x1 pos) (tTup t):=by
 intro pins s σ H Q I hq
 refine wpAny_Tuple_spliced (thn (h pos pins s σ H _ I hq) λus s1 ⟨xs,H1,I1,r,z,q⟩=>⟨by rw[<-r.length];exact z,?_⟩)
 have hf:H1 s1.heap.objs.size=none:=I1.hok.fresh (Nat.le_refl _)
 refine⟨.ref s1.heap.objs.size,upd H1 s1.heap.objs.size (.tup xs),I1.laid (t':=s1.toks) (λb u e=>Heap.get?_push_of_some _ e) (Nat.le_refl _) ?_,rfl,q _ hf⟩
 exact⟨z,us,r,⟨_,Heap.get?_push_size _ rfl,rfl,_,rfl⟩⟩
theorem Zv (h:PA X es t):PE X (.List es pos) (tLst t):=by
 intro pins s σ H Q I hq
 refine wpAny_List_spliced (thn (h pos pins s σ H _ I hq) λus s1 ⟨xs,H1,I1,r,z,q⟩=>⟨by rw[<-r.length];exact z,?_⟩)
 have hf:H1 s1.heap.objs.size=none:=I1.hok.fresh (Nat.le_refl _)
 refine⟨.ref s1.heap.objs.size,upd H1 s1.heap.objs.size (.lst xs),I1.laid (t':=s1.toks) (λb u e=>Heap.get?_push_of_some _ e) (Nat.le_refl _) ?_,rfl,q _ hf⟩
 exact⟨z,us,0,r,Heap.get?_push_size _ rfl⟩
end
abbrev Sp:=List V->Hp->VK->XK->Prop
abbrev CXT:=List Env->Hp->Shared->XK->Value->Shared->Prop
structure Env0 (P:Program)(w:World)(K:PySem.W.Frag)(mg:Str->Option Value)(base:Heap)(A:Around)(outer:List Env)(s:Shared)(H:Hp):Prop where
 frames:A.frames=some outer
 mod:Mod K mg base
 bs:∀b o,base.get? b=some o->s.heap.get? b=some o/\H b=none
 bsz:base.objs.size<=s.heap.objs.size
 funs:s.heap.FunFrames base outer
 frf:∀b∈frs outer,H b=none
 hok:HOk P w H s.heap
 bare:AllBare s.gens
noncomputable def CE (outer:List Env)(P:Program)(w:World)(H:Hp)(s:Shared)(Q:VK)(u:Value)(s':Shared):Prop :=
 ∃v H',s'.os=s.os/\AllBare s'.gens/\Un (frs outer) [] H H' s.heap s'.heap/\HOk P w H' s'.heap/\RelV v u/\Q v H'
noncomputable def CR (CX:CXT)(outer:List Env)(P:Program)(w:World)(H:Hp)(s:Shared)(Q:VK)(E:XK)(r:Result)(s':Shared):Prop :=
 match r with
 |.ok (.ret u)=>CE outer P w H s Q u s'
 |.ok _=>False
 |.error e=>CX outer H s E e s'
structure FnOk (P:Program)(w:World)(K:PySem.W.Frag)(mg:Str->Option Value)(base:Heap)(CX:CXT)(k:Nat)(f:Addr)(fd:FuncData)(ps:List Str)(sp:Sp):Prop where
 len:∀vs H Q E,sp vs H Q E->vs.length=ps.length
 run:∀(A:Around) (outer:List Env) (s:Shared) (H:Hp) (args:Args) (us:List Value) (vs:List V) (Q:VK) (E:XK),Room k A->Env0 P w K mg base A outer s H->BindsTo s fd args (ps.zip us)->Vals vs us->sp vs H Q E->
  codeAny (model P w) A (.call (.ref f) args) (CR CX outer P w H s Q E) s
theorem Env0.make {P:Program}{w:World}{K:PySem.W.Frag}{mg:Str->Option Value}{base:Heap}{A:Around}{outer:List Env}{s:Shared}{H:Hp}(e:Env0 P w K mg base A outer s H)(C:Addr)(us:List Value)(kw:List (Str×Value)) :
  Env0 P w K mg base (A.under (.builtin "type.__call__" ⟨.ref C::us,kw⟩)) outer s H:=⟨by first | exact e.frames | (simpa [Around.under,Code.envs,Code.isFrame,pushEnvs] using e.frames),e.mod,e.bs,e.bsz,e.funs,e.frf,e.hok,e.bare⟩
noncomputable section
variable {X:Cx}{pins:List (Addr×Obj)}{σ:St}{H:Hp}{s s':Shared}
theorem Inv.env0 (I:Inv X pins σ H s):Env0 X.prog X.w X.K X.mg X.base X.A X.stack s H :=
 ⟨I.ok.frames,I.ok.mod,I.bs,Nat.le_trans I.ok.bsz I.sz,I.stack,I.stkFree,I.hok,I.bare⟩
theorem Inv.after {Q:VK}{u:Value}(I:Inv X pins σ H s)(h:CE X.stack X.prog X.w H s Q u s'):EP X pins σ Q u s':=by
 obtain⟨v,H',os,bare,un,hok,r,q⟩:=h
 obtain⟨hh,g,d,t,os'⟩:=s'
 obtain rfl:os'=s.os:=os
 exact⟨v,H',I.call (h':=hh) (g':=g) (d':=d) (t':=t) (ch:=[]) un hok bare (λb z=>absurd z (by simp)),r,q⟩
end
noncomputable def Zh1 (sp:Sp)(dvs:List V)(E:XK)(t:TA):TE:=λσ H Q=>t σ H λvs H1=>sp (vs++dvs) H1 Q E
noncomputable def Zj6 (C:Addr)(sp:Sp)(dvs:List V)(E:XK)(t:TA):TE:=λσ H Q=>t σ H λvs H1=>∀x dx,H1 x=none->H1 dx=none->dx≠x->
 sp (.ref x::(vs++dvs)) (upd (upd H1 dx (.own x)) x (.ins C dx [])) (λv H2=>v=.non/\Q (.ref x) H2) E
noncomputable def Binds (K:PySem.W.Frag)(fd:FuncData)(ps:List Str)(ds:List Value):Prop :=
 ∀(s:Shared) (us:List Value),K.In s.heap->(us++ds).length=ps.length->BindsTo s fd ⟨us,[]⟩ (ps.zip (us++ds))
theorem Binds.all {K:PySem.W.Frag}{fd:FuncData}{ps:List Str}(h:∀us:List Value,us.length=ps.length->bindArgs fd ⟨us,[]⟩=pure (ps.zip us)):Binds K fd ps []:=λs us _ hl=>by
 rw[List.append_nil]at hl ⊢
 exact .of_eq (h us hl)
noncomputable def Z2v (CX:CXT)(X:Cx)(E:XK):Prop:=∀(pins:List (Addr×Obj)) (σ:St) (H:Hp) (s:Shared) (e:Value) (s':Shared),Inv X pins σ H s->CX X.stack H s E e s'->X.xe e s'
noncomputable section
variable {X:Cx}{CX:CXT}{k:Nat}{f C:Addr}{fd:FuncData}{ps:List Str}{sp:Sp}{dvs:List V}{ds:List Value}{E:XK}{x m:Str}{p pos apos:Pos}{e o:Expr}{es:List Expr}{ta:TE}{t:TA}
theorem Zia {pins:List (Addr×Obj)}{σ:St}{H:Hp}{s:Shared}{Q:VK}{us:List Value}{vs:List V}(F:FnOk X.prog X.w X.K X.mg X.base CX k f fd ps sp)(hr:Room k X.A)(hb:Binds X.K fd ps ds)(hd:Vals dvs ds)(hx:Z2v CX X E)
  (I:Inv X pins σ H s) (r:Vals vs us) (h:sp (vs++dvs) H Q E):wpAny (model X.prog X.w) X.A (call (.ref f) us) (EP X pins σ Q) X.xe s:=by
 have r2:Vals (vs++dvs) (us++ds):=r.append hd
 have hl:(us++ds).length=ps.length:=by rw[<-r2.length];exact F.len _ _ _ _ h
 refine wpAny_call (codeAny_mono (F.run X.A X.stack s H ⟨us,[]⟩ (us++ds) (vs++dvs) Q E hr I.env0 (hb s us I.kIn hl) r2 h) λr s' hq=>?_)
 cases r with
 |error e=>exact hx pins σ H s e s' I hq
 |ok fl =>
  cases fl with
  |ret u=>exact I.after hq
  |next=>exact False.elim hq
  |brk=>exact False.elim hq
  |cont=>exact False.elim hq
theorem Zj7 (F:FnOk X.prog X.w X.K X.mg X.base CX k f fd ps sp)(hr:Room k X.A)(hg:Gl X x)(hm:X.mg x=some (.ref f))(hk:PySem.W.keepIn X.K (.ref f)=true)(hb:Binds X.K fd ps ds)(hd:Vals dvs ds)(hx:Z2v CX X E)
  (ha:PA X (e::es) t) (hdb:(x==("__debug__":Str))=false:=by decide) (he:starEach (e::es) X.env=(false,eval e X.env)::starEach es X.env:=by rfl) (hpl:(backTo pos (starEach es X.env)).any (·.1)=false:=by rfl) :
  PE X (.Call (.Name x p) (e::es) [] pos) (Zh1 sp dvs E t):=by
 intro pins s σ H Q I h
 refine wpAny_Call_Name_kw (Z3s I hg hm ?_ hdb)
 refine PySem.W.callWith_K (h₀:=X.base) I.ok.mod.kin hk (thn (ha pos pins s σ H _ I h) λus s1 ⟨vs,H1,I1,r,q⟩=>⟨I1.kIn,?_⟩) he hpl
 exact Zia F hr hb hd hx I1 r q
structure Mk (K:PySem.W.Frag)(C f:Addr):Prop where
 makes:PySem.W.makesIn K C=true
 init:PySem.W.findIn K (.ref C) "__init__"=some (some (.ref f))
 fn:PySem.W.isFn K (.ref f)=true
 kp:PySem.W.keepIn K (.ref C)=true
theorem Zb1 {pins:List (Addr×Obj)}{σ:St}{H:Hp}{s:Shared}{Q:VK}{us:List Value}{vs:List V}(M:Mk X.K C f)(F:FnOk X.prog X.w X.K X.mg X.base CX k f fd ps sp)(hr:Room (k+1) X.A)(hb:Binds X.K fd ps ds)(hd:Vals dvs ds)
  (hx:Z2v CX X E) (I:Inv X pins σ H s) (r:Vals vs us)
  (h:∀x dx,H x=none->H dx=none->dx≠x->sp (.ref x::(vs++dvs)) (upd (upd H dx (.own x)) x (.ins C dx [])) (λv H2=>v=.non/\Q (.ref x) H2) E) :
  wpAny (model X.prog X.w) X.A (call (.ref C) us) (EP X pins σ Q) X.xe s:=by
 have hq:=h (s.heap.objs.size+1) s.heap.objs.size (I.hok.fresh (Nat.le_succ _)) (I.hok.fresh (Nat.le_refl _)) (Nat.ne_of_lt (Nat.lt_succ_self _))
 have I2:=Inv.made (C:=C) I
 have r2:Vals (V.ref (s.heap.objs.size+1)::(vs++dvs)) (Value.ref (s.heap.objs.size+1)::(us++ds)):=.cons rfl (r.append hd)
 have hl:(Value.ref (s.heap.objs.size+1)::us++ds).length=ps.length:=by
  have e:=r2.length
  rw[F.len _ _ _ _ hq]at e
  exact e.symm
 refine wpAny_call (Zh0 (f:=f) I.kIn M.makes M.init (beq_iff_eq.mp M.fn) (codeAny_mono (F.run _ X.stack _ _ ⟨Value.ref (s.heap.objs.size+1)::us,[]⟩ (Value.ref (s.heap.objs.size+1)::(us++ds)) _ _ E (hr.make C us [])
  (I2.env0.make C us []) (hb _ (Value.ref (s.heap.objs.size+1)::us) I2.kIn hl) r2 hq) λr s' hq'=>?_))
 cases r with
 |error e=>exact hx pins σ _ _ e s' I2 hq'
 |ok fl =>
  cases fl with
  |ret u =>
   obtain⟨v,H',I3,rv,ev,q3⟩:=I2.after hq'
   subst ev
   exact⟨rv,⟨V.ref (s.heap.objs.size+1),H',I3,rfl,q3⟩⟩
  |next=>exact False.elim hq'
  |brk=>exact False.elim hq'
  |cont=>exact False.elim hq'
theorem Zj8 (M:Mk X.K C f)(F:FnOk X.prog X.w X.K X.mg X.base CX k f fd ps sp)(hr:Room (k+1) X.A)(hg:Gl X x)(hm:X.mg x=some (.ref C))(hb:Binds X.K fd ps ds)(hd:Vals dvs ds)(hx:Z2v CX X E)
  (ha:PA X (e::es) t) (hdb:(x==("__debug__":Str))=false:=by decide) (he:starEach (e::es) X.env=(false,eval e X.env)::starEach es X.env:=by rfl) (hpl:(backTo pos (starEach es X.env)).any (·.1)=false:=by rfl) :
  PE X (.Call (.Name x p) (e::es) [] pos) (Zj6 C sp dvs E t):=by
 intro pins s σ H Q I h
 refine wpAny_Call_Name_kw (Z3s I hg hm ?_ hdb)
 refine PySem.W.callWith_K (h₀:=X.base) I.ok.mod.kin M.kp (thn (ha pos pins s σ H _ I h) λus s1 ⟨vs,H1,I1,r,q⟩=>⟨I1.kIn,?_⟩) he hpl
 exact Zb1 M F hr hb hd hx I1 r q
theorem Zh2 (M:Mk X.K C f)(F:FnOk X.prog X.w X.K X.mg X.base CX k f fd ps sp)(hr:Room (k+1) X.A)(hg:Gl X x)(hm:X.mg x=some (.ref C))(hb:Binds X.K fd ps ds)(hd:Vals dvs ds)(hx:Z2v CX X E)
  (hdb:(x==("__debug__":Str))=false:=by decide):PE X (.Call (.Name x p) [] [] pos) (Zj6 C sp dvs E tNil):=by
 intro pins s σ H Q I h
 refine wpAny_Call_Name_kw (Z3s I hg hm ?_ hdb)
 exact PySem.W.callWith_K0 I.kIn M.kp (Zb1 (us:=[]) M F hr hb hd hx I .nil h)
end
noncomputable section
variable {X:Cx}{CX:CXT}{k:Nat}{f C:Addr}{fd:FuncData}{ps ks:List Str}{sp:Sp}{E:XK}{x m:Str}{p pos apos kpos:Pos}{e o:Expr}{es:List Expr}{kws:List Keyword}{te ta:TE}{t tk:TA}{nm:Option Str}
variable {g:List Value->List Value->List Value}{gV:List V->List V->List V}
end
structure FnScope (N P:List Str)(sc:Scope):Prop where
 kind:sc.kind=.function
 co:sc.isCoroutine=false
 gen:sc.isGenerator=false
 nd:N.Nodup
 pre:N.take P.length=P
 par:∀x∈P,sc.names.lookup x=some .local\/sc.names.lookup x=some .cell
 nofree:∀y∈sc.names,y.2≠.free
theorem Z6l {kindOf:Str->Option NameKind}{x:Str}:∀{binds:List (Str×Value)} {m:Str->Option Value},(∀v,(x,v)∉binds)->bindL kindOf binds m x=m x
 |[],_,_=>rfl
 |(n,v)::r,m,h=>by
  unfold bindL
  rw[Z6l λw hw=>h w (List.mem_cons_of_mem _ hw)]
  split
  ·have:x≠n:=by rintro rfl;exact h v List.mem_cons_self
   simp[this]
  ·rfl
theorem Z6m {kindOf:Str->Option NameKind}{x:Str}:∀{binds:List (Str×Value)} {m:Str->Option Value},(∀v,(x,v)∉binds)->bindC kindOf binds m x=m x
 |[],_,_=>rfl
 |(n,v)::r,m,h=>by
  unfold bindC
  rw[Z6m λw hw=>h w (List.mem_cons_of_mem _ hw)]
  split
  ·rfl
  ·have:x≠n:=by rintro rfl;exact h v List.mem_cons_self
   simp[this]
theorem Z6n {kindOf:Str->Option NameKind}{x:Str}{v:Value}:∀{P:List Str} {vs:List Value} {i:Nat} {m:Str->Option Value},P.Nodup->P[i]?=some x->vs[i]?=some v->kindOf x=some .local->
  bindL kindOf (P.zip vs) m x=some v
 |[],_,_,_,_,h,_,_=>by simp at h
 |_::_,[],_,_,_,_,h,_=>by simp at h
 |p::P,w::vs,0,m,nd,h1,h2,hk=>by
  simp at h1 h2;subst h1;subst h2
  show bindL kindOf ((p,w)::P.zip vs) m p=_
  unfold bindL
  rw[Z6l λv hv=>(List.nodup_cons.mp nd).1 (List.of_mem_zip hv).1,if_pos hk]
  simp
 |p::P,w::vs,i+1,m,nd,h1,h2,hk=>by
  show bindL kindOf ((p,w)::P.zip vs) m x=_
  unfold bindL
  exact Z6n (i:=i) (List.nodup_cons.mp nd).2 (by simpa using h1) (by simpa using h2) hk
theorem Z6o {kindOf:Str->Option NameKind}{x:Str}{v:Value}:∀{P:List Str} {vs:List Value} {i:Nat} {m:Str->Option Value},P.Nodup->P[i]?=some x->vs[i]?=some v->kindOf x≠some .local->
  bindC kindOf (P.zip vs) m x=some v
 |[],_,_,_,_,h,_,_=>by simp at h
 |_::_,[],_,_,_,_,h,_=>by simp at h
 |p::P,w::vs,0,m,nd,h1,h2,hk=>by
  simp at h1 h2;subst h1;subst h2
  show bindC kindOf ((p,w)::P.zip vs) m p=_
  unfold bindC
  rw[Z6m λv hv=>(List.nodup_cons.mp nd).1 (List.of_mem_zip hv).1,if_neg hk]
  simp
 |p::P,w::vs,i+1,m,nd,h1,h2,hk=>by
  show bindC kindOf ((p,w)::P.zip vs) m x=_
  unfold bindC
  exact Z6o (i:=i) (List.nodup_cons.mp nd).2 (by simpa using h1) (by simpa using h2) hk
noncomputable def start (N:List Str)(vs:List V):St:=vs.map some++List.replicate (N.length-vs.length) none
noncomputable def cxOf (CX:CXT)(P:Program)(w:World)(K:PySem.W.Frag)(mg:Str->Option Value)(base:Heap)(N:List Str)(qual:Str)(scope:Scope)(f:Addr)(cd:Value)(A:Around)(outer:List Env)(s:Shared)(H:Hp)(E:XK):Cx where
 prog:=P
 w:=w
 K:=K
 mg:=mg
 base:=base
 A:=A.deeper (envOfC qual scope s.heap.objs.size f cd)
 N:=N
 s_0:=s
 H_0:=H
 env:=envOfC qual scope s.heap.objs.size f cd
 outer:=outer
 stack:=envOfC qual scope s.heap.objs.size f cd::outer
 ex:=[]
 calm:=true
 fn:=λ_=>true
 pn:=[]
 xe:=λe s'=>wpAny (model P w) (A.deeper (envOfC qual scope s.heap.objs.size f cd)) (leaving (envOfC qual scope s.heap.objs.size f cd) e) (λ_ s''=>CX outer H s E e s'') (λe' s''=>CX outer H s E e' s'') s'
theorem Zb2 {sc:Scope}{n:Nat}{x:Str}(h:sc.names.lookup x=some .cell):∃c,(cellsFrom n sc.names []).lookup x=some c:=by
 have q:=PySem.W.cellsFrom_some sc.names n [] (.inl h)
 exact Option.isSome_iff_exists.mp q
theorem Zeb {CX:CXT}{P:Program}{w:World}{K:PySem.W.Frag}{mg:Str->Option Value}{base:Heap}{N ps:List Str}{qual:Str}{scope:Scope}{f:Addr}{cd:Value}{A:Around}{outer:List Env}{s s1:Shared}{H:Hp}{E:XK}{us:List Value}{vs:List V}
  (S:FnScope N ps scope) (hd:A.handled=none) (e0:Env0 P w K mg base A outer s H) (hl:vs.length=ps.length) (r:Vals vs us)
  (x:InCallC s s.heap.objs.size (bindL (envOfC qual scope s.heap.objs.size f cd).kindOf (ps.zip us) λ_=>none) (cellsFrom (s.heap.objs.size+1) scope.names []) (bindC (envOfC qual scope s.heap.objs.size f cd).kindOf (ps.zip us) λ_=>none) s1) :
  Inv (cxOf CX P w K mg base N qual scope f cd A outer s H E) [] (start N vs) H s1:=by
 have hpl:ps.length<=N.length:=by have:=congrArg List.length S.pre;rw[List.length_take]at this;omega
 obtain⟨h1,tk,rfl,hk⟩:=x.done
 have noA:∀b:Addr,b∉(cxOf CX P w K mg base N qual scope f cd A outer s H E).ex:=λb z=>absurd (show b∈([]:List Addr) from z) (by simp)
 refine⟨⟨e0.mod,S.kind,rfl,rfl,Nat.le_refl _,λy z c h1 h2=>?_,λy hy=>?_,λy c _ h=>?_,λ_=>hd,Around.frames_deeper e0.frames,.inr ⟨rfl,rfl⟩,λb z=>absurd z (noA b),e0.bs,e0.bsz,λb _ _=>noA b,λb z=>absurd z (noA b),e0.funs,e0.frf⟩,
  rfl,e0.bare,Un.kept hk,⟨_,x.toInCall.ns,λi y v h1 h2 h3=>?_⟩,λy c h=>⟨_,x.cell y c h⟩,e0.hok.fresh (Nat.le_refl _),λy c h=>?_,λp hp=>absurd (show p∈([]:List (Addr×Obj)) from hp) (by simp),e0.hok.kept hk,?_⟩
 ·exact name_of_addr x.apart (PySem.mem_of_lookup h1) (PySem.mem_of_lookup h2)
 ·have hy:scope.names.lookup y=some .cell\/scope.names.lookup y=some .free:=hy
  rcases hy with hy | hy
  ·exact Zb2 hy
  ·exact absurd rfl (S.nofree _ (PySem.mem_of_lookup hy))
 ·exact Nat.le_of_lt (x.above y c (PySem.mem_of_lookup h))
 ·have hi:i<vs.length:=by
   unfold start at h2
   by_cases hi:i<vs.length
   ·exact hi
   ·rw[List.getElem?_append_right (by simpa using hi)]at h2
    rw[List.getElem?_replicate]at h2
    split at h2 <;> cases h2
  have ha:vs[i]?=some v:=by
   unfold start at h2
   rw[List.getElem?_append_left (by simpa using hi),List.getElem?_map]at h2
   cases e:vs[i]? with
   |none=>rw[e]at h2;cases h2
   |some a=>rw[e]at h2;cases h2;rfl
  obtain⟨u,hu,rv⟩:=r.get ha
  have hp:ps[i]?=some y:=by
   rw[<-S.pre,List.getElem?_take_of_lt (by omega)];exact h1
  have ndP:ps.Nodup:=by rw[<-S.pre];exact S.nd.sublist (List.take_sublist _ _)
  refine⟨u,rv,?_⟩
  rcases S.par y (List.mem_of_getElem? hp) with k | k
  ·exact .inl ⟨k,Z6n ndP hp hu k⟩
  ·obtain⟨c,e⟩:=Zb2 (n:=s.heap.objs.size+1) k
   refine .inr ⟨.inl k,c,e,?_⟩
   have q:=x.cell y c e
   rw[Z6o ndP hp hu (by show scope.names.lookup y≠_;rw[k];decide)]at q
   exact q
 ·exact e0.hok.fresh (Nat.le_of_lt (x.above y c (PySem.mem_of_lookup h)))
 ·unfold start
  show _=N.length
  rw[List.length_append,List.length_map,List.length_replicate]
  omega
theorem Zlp {CX:CXT}{P:Program}{w:World}{K:PySem.W.Frag}{mg:Str->Option Value}{base:Heap}{k:Nat}{f:Addr}{name qual:Str}{params:Arguments}{body:List Stmt}{scope:Scope}{dV kV doc pm cdv ct oc:Value}{an od:Option Addr}
  {osl:Array (Option Value)} {N ps:List Str} {sp:Sp} (lk:K.lookup f=some ⟨oc,od,.func (PySem.W.fnOf name qual params body scope dV kV doc pm an cdv ct),osl⟩) (hcd:PySem.W.codeIn K cdv qual=true) (S:FnScope N ps scope)
  (len:∀vs H Q E,sp vs H Q E->vs.length=ps.length)
  (hbody:∀(A:Around) (outer:List Env) (s:Shared) (H:Hp) (vs:List V) (Q:VK) (E:XK),Room k (A.deeper (envOfC qual scope s.heap.objs.size f cdv))->sp vs H Q E->
   ∃t,PSs (cxOf CX P w K mg base N qual scope f cdv A outer s H E) body t/\t {nx:=λ_ H'=>Q .non H',rt:=Q} (start N vs) H) :
  FnOk P w K mg base CX (k+1) f (PySem.W.fnOf name qual params body scope dV kV doc pm an cdv ct) ps sp:=by
 refine⟨len,λA outer s H args us vs Q E hr e0 hb r hsp=>?_⟩
 have hl:=len _ _ _ _ hsp
 have KX:K.In s.heap:=e0.mod.kin.keeps λb o e=>(e0.bs b o e).1
 have lim:s.heap.NoLimit:=e0.mod.nolimit.keeps λb o e=>(e0.bs b o e).1
 have hkind:∀y∈ps.zip us,scope.names.lookup y.1=some .local\/(scope.names.lookup y.1=some .cell/\((cellsFrom (s.heap.objs.size+1) scope.names []).lookup y.1).isSome=true):=λ⟨n,v⟩ hy=>by
  rcases S.par n (List.of_mem_zip hy).1 with q | q
  ·exact .inl q
  ·exact .inr ⟨q,PySem.W.cellsFrom_some _ _ _ (.inl q)⟩
 refine codeAny_call_function hr.depth (KX _ _ lk) rfl S.co S.gen rfl (PySem.W.codeRec_of KX hcd) (hb _ _ _ _ ?_)
 refine wpAny_newFunctionEnv_cells S.kind hkind λenv he s1 x=>?_
 subst he
 refine⟨lim.keeps x.toInCall.keep,codeAny_func ?_⟩
 obtain⟨t,ht,hq⟩:=hbody A outer s H vs Q E (hr.deeper _) hsp
 have I:Inv (cxOf CX P w K mg base N qual scope f cdv A outer s H E) [] (start N vs) H s1:=Zeb S hr.hd e0 hl r x
 refine wpAny_mono (ht [] s1 (start N vs) H _ I hq) (λfl s' hs=>?_) λe s' hs=>hs
 have fin:∀{σ':St} {H':Hp} {v:V} {u:Value},Inv (cxOf CX P w K mg base N qual scope f cdv A outer s H E) [] σ' H' s'->RelV v u->Q v H'->CE outer P w H s Q u s' :=
  λ{σ' H' v u} J rv q=>⟨v,H',J.os,J.bare,J.base,J.hok,rv,q⟩
 cases fl with
 |ret u =>
  obtain⟨v,σ',H',J,rv,q⟩:=hs
  exact fin J rv q
 |next =>
  obtain⟨σ',H',J,q⟩:=hs
  exact fin (v:=V.non) (u:=Value.none) J rfl q
 |brk =>
  obtain⟨_,_,_,q⟩:=hs
  exact False.elim q
 |cont =>
  obtain⟨_,_,_,q⟩:=hs
  exact False.elim q
end L2
namespace L2
open PySem PySem.Spec PyProof.Rows
noncomputable section
variable {X:Cx}{x:Str}{p pos:Pos}{e:Expr}{es:List Expr}{t:TA}{id T:String}{r:List V->Hp->VK->Prop}
noncomputable def tCB (r:List V->Hp->VK->Prop)(t:TA):TE:=λσ H Q=>t σ H λvs H1=>r vs H1 Q
theorem Yi (hc:Rn X (.builtin id) r)(hg:Gl X x)(hm:X.mg x=none)(hv:bootBuiltins x=some (.builtin id))(ha:PA X (e::es) t)(hn:x≠"__name__":=by decide)(hdb:(x==("__debug__":Str))=false:=by decide)
  (he:starEach (e::es) X.env=(false,eval e X.env)::starEach es X.env:=by rfl) (hpl:(backTo pos (starEach es X.env)).any (·.1)=false:=by rfl):PE X (.Call (.Name x p) (e::es) [] pos) (tCB r t):=by
 intro pins s σ H Q I h
 refine wpAny_Call_Name_kw (Td I hg hm hv ?_ hn hdb)
 exact PyProof.Rows.callWith_builtin1 (thn (ha pos pins s σ H _ I h) λus s1 ⟨vs,H1,I1,r1,q1⟩=>hc pins s1 σ H1 vs us Q I1 r1 q1) he hpl
theorem Vz (hc:Rn X (.type T) r)(hg:Gl X x)(hm:X.mg x=none)(hv:bootBuiltins x=some (.type T))(ha:PA X (e::es) t)(hn:x≠"__name__":=by decide)(hdb:(x==("__debug__":Str))=false:=by decide)
  (he:starEach (e::es) X.env=(false,eval e X.env)::starEach es X.env:=by rfl) (hpl:(backTo pos (starEach es X.env)).any (·.1)=false:=by rfl):PE X (.Call (.Name x p) (e::es) [] pos) (tCB r t):=by
 intro pins s σ H Q I h
 refine wpAny_Call_Name_kw (Td I hg hm hv ?_ hn hdb)
 exact PyProof.Rows.callWith_type1 (thn (ha pos pins s σ H _ I h) λus s1 ⟨vs,H1,I1,r1,q1⟩=>hc pins s1 σ H1 vs us Q I1 r1 q1) he hpl
end
end L2
namespace HT
open PySem PyProof.Rows
noncomputable section
open PySem.SeqAt
open PySem.AutoSeq1 (wpAny_loadPart')
open PySem.MeetsSeq PySem.MeetsSeq2 PySem.MeetsSeq3
end
noncomputable section
variable {prog:Program}{w:World}{A:Around}{E:Value->Shared->Prop}{s:Shared}
theorem cat_tup {t b:Addr}{vs ws:List Value}{Q:Value->Shared->Prop}(ht:IsTup s.heap t vs.toArray)(hb:IsTup s.heap b ws.toArray)(hv:vs≠[])
  (h1:ws=[]->Q (.ref t) s) (h2:ws≠[]->Q (.ref s.heap.objs.size) {s with heap:=s.heap.push {cls:=.type "tuple",data:=.seq (vs++ws).toArray}})
  (hsz:vs.length+ws.length<=sizeLine):wpAny (model prog w) A (binaryOp .Add (.ref t) (.ref b)) Q E s:=by
 obtain⟨⟨cls,dd,data,sl⟩,ho,hc,n,hd⟩:=id ht
 obtain⟨⟨cls2,dd2,data2,sl2⟩,ho2,hc2,n2,hd2⟩:=id hb
 simp only at hc hd hc2 hd2
 subst hc hd hc2 hd2
 have e:vs.toArray++ws.toArray=(vs++ws).toArray:=by simp
 by_cases hw:ws=[]
 ·exact concat_meets ⟨_,ho,rfl⟩ ⟨_,ho2,rfl⟩ noFill_tuple_add seq_tuple_add PySem.F.slot_tuple_add PySem.F.entry_tuple_add (PySem.F.args_tuple_add_2 _ _)
   (tuple_addW1 t b vs.toArray ws.toArray n n2 dd dd2 sl sl2 (by simpa using hv) (by simp[hw])) ⟨ho,ho2,h1 hw⟩
 ·refine concat_meets ⟨_,ho,rfl⟩ ⟨_,ho2,rfl⟩ noFill_tuple_add seq_tuple_add PySem.F.slot_tuple_add PySem.F.entry_tuple_add (PySem.F.args_tuple_add_2 _ _)
   (tuple_addW2 t b vs.toArray ws.toArray n n2 dd dd2 sl sl2 (by simpa using hv) (by simpa using hw) (by rw[List.size_toArray,List.size_toArray];exact hsz)) ⟨ho,ho2,?_⟩
  rw[e]
  exact h2 hw
noncomputable def sIx (n d:Nat):Option Int->Nat
 |none=>d
 |some v=>if v<0 then(v+(n:Int)).toNat else min v.toNat n
theorem sIx_none (n d:Nat):sIx n d none=d:=rfl
theorem sIx_nat (n d k:Nat):sIx n d (some (k:Int))=min k n:=by
 show(if(k:Int)<0 then((k:Int)+(n:Int)).toNat else min (k:Int).toNat n)=min k n
 rw[if_neg (by omega),Int.toNat_natCast]
theorem Zkj (n d:Nat)(hd:d<=n)(o:Option Int):sIx n d o<=n:=by
 cases o with
 |none=>exact hd
 |some v =>
  show(if v<0 then(v+(n:Int)).toNat else min v.toNat n)<=n
  by_cases hv:v<0
  ·rw[if_pos hv];omega
  ·rw[if_neg hv];exact Nat.min_le_right _ _
theorem Zec (v:Int)(n d:Nat):(if v<0 then max (v+(n:Int)) 0 else min v (n:Int))=((sIx n d (some v):Nat):Int):=by
 show(if v<0 then max (v+(n:Int)) 0 else min v (n:Int))=(((if v<0 then(v+(n:Int)).toNat else min v.toNat n):Nat):Int)
 by_cases hv:v<0
 ·simp only[if_pos hv];omega
 ·simp only[if_neg hv];omega
theorem Zci (lo hi:Option Int)(n:Nat):Builtin.Slice.sliceAdjust lo hi 1 (n:Int)=(((sIx n 0 lo:Nat):Int),((sIx n n hi:Nat):Int)):=by
 have h1:¬((1:Int)<0):=by omega
 unfold Builtin.Slice.sliceAdjust
 simp only[h1,if_false]
 refine Prod.ext ?_ ?_
 ·cases lo with
  |none=>rfl
  |some v=>exact Zec v n 0
 ·cases hi with
  |none=>rfl
  |some v=>exact Zec v n n
theorem Zcj (i j:Nat):Builtin.Slice.slicePlaces (i:Int) (j:Int) 1=j-i:=by
 unfold Builtin.Slice.slicePlaces
 have h1:(1:Int) > 0:=by omega
 simp only[h1,if_true,Int.ediv_one]
 split <;> omega
theorem Z2w {v:Value}{o:Option Int}{Q:Option Int->Shared->Prop}(p:IsPart v o)(h:Q o s):wpAny (model prog w) A (Builtin.Slice.slicePartIndex v) Q E s:=by
 cases p with
 |none=>exact slicePart_none h
 |int i t=>exact slicePart_int h
theorem Mh {sl:Addr}{vl vu:Value}{lo hi:Option Int}{n:Nat}{Q:Int×Int×Nat->Shared->Prop}(hs:s.heap.IsSliceOf sl vl vu .none)(pl:IsPart vl lo)(pu:IsPart vu hi)
  (h:Q (((sIx n 0 lo:Nat):Int),1,sIx n n hi-sIx n 0 lo) s):wpAny (model prog w) A (Builtin.Slice.sliceApplied (.ref sl) (pure (n:Int))) Q E s:=by
 obtain⟨os,hos,hcs,hds⟩:=id hs
 unfold Builtin.Slice.sliceApplied Builtin.Slice.sliceFields
 refine wpAny_bind (wpAny_bind (wpAny_field hos hds (x:=vl) rfl (wpAny_bind (wpAny_field hos hds (x:=vu) rfl (wpAny_bind (wpAny_field hos hds (x:=.none) rfl (wpAny_pure ?_)))))))
 refine wpAny_bind (slicePart_none ?_)
 show wpAny _ _ (if((1:Int)==0)=true then _ else _) _ _ s
 rw[if_neg (by decide)]
 refine wpAny_bind (Z2w pl (wpAny_bind (Z2w pu (wpAny_bind (wpAny_pure ?_)))))
 show wpAny _ _ (match Builtin.Slice.sliceAdjust lo hi 1 (n:Int) with | (lo,hi)=>pure (lo,(1:Int),Builtin.Slice.slicePlaces lo hi 1)) _ _ s
 rw[Zci lo hi n]
 show wpAny _ _ (pure (((sIx n 0 lo:Nat):Int),(1:Int),Builtin.Slice.slicePlaces ((sIx n 0 lo:Nat):Int) ((sIx n n hi:Nat):Int) 1)) _ _ s
 rw[Zcj]
 exact wpAny_pure h
theorem Zh3 (xs:Array Value)(i k:Nat):((List.range k).filterMap λ(m:Nat)=>xs[((i:Int)+(m:Int)*1).toNat]?).toArray=((xs.toList.drop i).take k).toArray:=by
 have e:(λ(m:Nat)=>xs[((i:Int)+(m:Int)*1).toNat]?)=λm=>xs[i+m]?:=by
  funext m
  have:((i:Int)+(m:Int)*1).toNat=i+m:=by omega
  rw[this]
 rw[e]
 have:=pick_run xs i k
 rw[List.filterMap_map]at this
 have e2:((λx=>xs[x]?)∘λx=>i+x)=λm=>xs[i+m]?:=rfl
 rw[e2]at this
 rw[this]
theorem getItem_tuple_cut {t sl:Addr}{items:Array Value}{vl vu:Value}{lo hi:Option Int}{Q:Value->Shared->Prop}(ht:IsTup s.heap t items)(hs:s.heap.IsSliceOf sl vl vu .none)(pl:IsPart vl lo)(pu:IsPart vu hi)
  (hw:¬(sIx items.size 0 lo=0/\sIx items.size items.size hi=items.size))
  (h:Q (.ref s.heap.objs.size) {s with heap:=s.heap.push {cls:=.type "tuple",data:=.seq ((items.toList.drop (sIx items.size 0 lo)).take (sIx items.size items.size hi-sIx items.size 0 lo)).toArray}})
  (hsz:items.size<=sizeLine):wpAny (model prog w) A (getItem (.ref t) (.ref sl)) Q E s:=by
 have htake:sizeOk (.seq ((items.toList.drop (sIx items.size 0 lo)).take (sIx items.size items.size hi-sIx items.size 0 lo)).toArray):=by
  show((items.toList.drop (sIx items.size 0 lo)).take (sIx items.size items.size hi-sIx items.size 0 lo)).toArray.size<=sizeLine
  rw[List.size_toArray,List.length_take,List.length_drop,Array.length_toList]
  omega
 have hj:sIx items.size items.size hi<=items.size:=Zkj _ _ (Nat.le_refl _) hi
 obtain⟨os,hos,hcs,hds⟩:=id hs
 have hTs:s.TypeIs (.ref sl) "slice":=⟨os,hos,hcs⟩
 unfold getItem
 try with_reducible refine wpAny_holding ?_
 first | refine wpAny_bind (wpAny_pure ?_) | skip
 refine wpAny_bind (wpAny_sequenceKey ht.typeIs (by decide) ?_)
 refine wpAny_bind (wpAny_callSpecial?_slot (name:=Str.ofString "__getitem__") ht.typeIs PyProof.Rows.slot_tuple_getitem
  (wpAny_call_entry PyProof.Rows.slot_tuple_getitem ht.typeIs entry_tuple_getitem ?_ (args_tuple_getitem _ _)))
 show wpAny _ _ (Builtin.Tuple.tupleItemsOf (.ref t) >>= _) _ _ s
 refine wpAny_bind (tupleItemsOf_ ht ?_)
 refine wpAny_bind (wpAny_typeOf hTs ?_)
 rw[if_pos (by decide)]
 refine wpAny_bind (Mh hs pl pu ?_)
 have hno:¬((((sIx items.size 0 lo:Nat):Int)==0&&(1:Int)==1&&(sIx items.size items.size hi-sIx items.size 0 lo)==items.size)=true):=by
  intro q
  rw[Bool.and_eq_true,Bool.and_eq_true]at q
  have q1:((sIx items.size 0 lo:Nat):Int)=0:=eq_of_beq q.1.1
  have q2:sIx items.size items.size hi-sIx items.size 0 lo=items.size:=eq_of_beq q.2
  exact hw ⟨by omega,by omega⟩
 show wpAny _ _ (if(((sIx items.size 0 lo:Nat):Int)==0&&(1:Int)==1&&(sIx items.size items.size hi-sIx items.size 0 lo)==items.size)=true then _ else _) _ _ s
 rw[if_neg hno,Zh3]
 first
  |exact wpAny_bind (m:=Builtin.Tuple.tupleExact _) (wpAny_newObj_type (wpAny_pure ⟨_,rfl,wpAny_pure h⟩) htake)
  |exact wpAny_bind (m:=Builtin.Tuple.tupleExact _) (wpAny_newObj_type (wpAny_bind (wpAny_pure (wpAny_pure ⟨_,rfl,wpAny_pure h⟩))) htake)
  |exact wpAny_bind (wpAny_bind (m:=Builtin.Tuple.tupleExact _) (wpAny_newObj_type (wpAny_pure (wpAny_pure ⟨_,rfl,wpAny_pure h⟩)) htake))
  |exact wpAny_bind (wpAny_bind (m:=Builtin.Tuple.tupleExact _) (wpAny_newObj_type (wpAny_pure ⟨_,rfl,wpAny_pure h⟩) htake))
end
end HT
namespace L2
open PySem PySem.Spec PyProof.Rows
abbrev TO:=St->Hp->(Option Int->Hp->Prop)->Prop
noncomputable def PO (X:Cx)(e:Option Expr)(t:TO):Prop :=
 ∀(pins:List (Addr×Obj)) (s:Shared) (σ:St) (H:Hp) (Q:Option Int->Hp->Prop),Inv X pins σ H s->t σ H Q->
  wpAny (model X.prog X.w) X.A (evalPart e X.env) (λu s'=>∃o H',Inv X pins σ H' s'/\IsPart u o/\Q o H') X.xe s
noncomputable def Zj9:TO:=λ_ H Q=>Q none H
noncomputable def Zlq (t:TE):TO:=λσ H Q=>t σ H λx H1=>∃i,x=.int i/\Q (some i) H1
noncomputable section
variable {X:Cx}{e:Expr}{te:TE}{lo hi:Option Expr}{tl th:TO}{pos p2:Pos}
theorem Z3v:PO X none Zj9:=by
 intro pins s σ H Q I h
 rw[evalPart_none]
 exact wpAny_pure ⟨none,H,I,.none,h⟩
theorem Tf (h:PE X e te):PO X (some e) (Zlq te):=by
 intro pins s σ H Q I hw
 rw[evalPart_some]
 refine thn (h pins s σ H _ I hw) λu s1 ⟨x,H1,I1,r1,q1⟩=>?_
 obtain⟨i,rfl,q⟩:=q1
 obtain⟨t,rfl⟩:=r1
 exact⟨some i,H1,I1,.int i t,q⟩
noncomputable def SlR (X:Cx)(r:V->Option Int->Option Int->Hp->VK->Prop):Prop :=
 ∀(pins:List (Addr×Obj)) (s:Shared) (σ:St) (H:Hp) (x:V) (v vl vu:Value) (lo hi:Option Int) (sl:Addr) (Q:VK),Inv X pins σ H s->RelV x v->s.heap.IsSliceOf sl vl vu .none->IsPart vl lo->IsPart vu hi->r x lo hi H Q->
  ∃T id,typeLookup (.type T) "__getitem__"=pure (some (.builtin id))/\s.TypeIs v T/\wpAny (model X.prog X.w) X.A (getItem v (.ref sl)) (EP X pins σ Q) X.xe s
noncomputable def tSl (r:V->Option Int->Option Int->Hp->VK->Prop)(te:TE)(tl th:TO):TE:=λσ H Q=>te σ H λx H1=>tl σ H1 λl H2=>th σ H2 λu H3=>r x l u H3 Q
theorem Sm {r:V->Option Int->Option Int->Hp->VK->Prop}(hr:SlR X r)(he:PE X e te)(hl:PO X lo tl)(hu:PO X hi th):PE X (.Subscript e (.Slice lo hi none p2) pos) (tSl r te tl th):=by
 intro pins s σ H Q I h
 refine Subscript_ (thn (he pins s σ H _ I h) λv s1 ⟨x,H1,I1,r1,q1⟩=>?_)
 refine wpAny_Slice (thn (hl pins s1 σ H1 _ I1 q1) λvl s2 ⟨l,H2,I2,pl,q2⟩=>thn (hu pins s2 σ H2 _ I2 q2) λvu s3 ⟨u,H3,I3,pu,q3⟩=>?_)
 rw[evalPart_none]
 refine wpAny_pure ?_
 have I4:Inv X pins σ H3 {s3 with heap:=s3.heap.push {cls:=.type "slice",data:=.fields #[vl,vu,.none]}}:=I3.kept (t':=s3.toks) λb ob q=>Heap.get?_push_of_some _ q
 obtain⟨T,id,hT,ht,hg⟩:=hr pins {s3 with heap:=s3.heap.push {cls:=.type "slice",data:=.fields #[vl,vu,.none]}} σ H3 x v vl vu l u s3.heap.objs.size Q I4 r1 (Heap.IsSliceOf.new ..) pl pu q3
 show wpAny (model X.prog X.w) X.A (subscriptTail e (.Slice lo hi none p2) v (.ref s3.heap.objs.size)) (EP X pins σ Q) X.xe {s3 with heap:=s3.heap.push {cls:=.type "slice",data:=.fields #[vl,vu,.none]}}
 exact tail_any (ops:=[.ref s3.heap.objs.size,v]) ht hT hg (by with_unfolding_all rfl)
noncomputable def cutV (xs:List V)(lo hi:Option Int):List V:=(xs.drop (HT.sIx xs.length 0 lo)).take (HT.sIx xs.length xs.length hi-HT.sIx xs.length 0 lo)
theorem Js (xs:List V)(lo hi:Option Int):(cutV xs lo hi).length<=xs.length:=by
 unfold cutV
 rw[List.length_take,List.length_drop]
 omega
noncomputable def rSlT (K:PySem.W.Frag):V->Option Int->Option Int->Hp->VK->Prop:=λx lo hi H Q=>∃a xs,x=.ref a/\SqT K H a xs/\
 ¬(HT.sIx xs.length 0 lo=0/\HT.sIx xs.length xs.length hi=xs.length)/\∀p,H p=none->Q (.ref p) (upd H p (.tup (cutV xs lo hi)))
theorem Zib:SlR X (rSlT X.K):=by
 intro pins s σ H x v vl vu lo hi sl Q I rx hs pl pu h
 obtain⟨a,xs,rfl,hx,hw,q⟩:=h
 cases rx
 obtain⟨its,r,ht,hz⟩:=I.tuple hx
 have hlen:its.toArray.size=xs.length:=by rw[List.size_toArray];exact r.length.symm
 refine⟨"tuple",_,PyProof.Rows.slot_tuple_getitem.lookup,ht.typeIs,?_⟩
 refine HT.getItem_tuple_cut ht hs pl pu (by rw[hlen];exact hw) ?_ (by rw[hlen];exact hz)
 rw[hlen]
 refine⟨.ref s.heap.objs.size,_,I.laid (t':=s.toks) (o:=.tup (cutV xs lo hi)) (λb ob q=>Heap.get?_push_of_some _ q) (Nat.le_refl _) ?_,rfl,q _ (I.hok.fresh (Nat.le_refl _))⟩
 exact⟨Nat.le_trans (Js xs lo hi) hz,_,(r.drop (HT.sIx xs.length 0 lo)).take (HT.sIx xs.length xs.length hi-HT.sIx xs.length 0 lo),IsTup.new _ _⟩
noncomputable def Zlr (K:PySem.W.Frag):R2:=λx y H Q=>∃a b xs ys,x=.ref a/\y=.ref b/\SqT K H a xs/\SqT K H b ys/\xs≠[]/\xs.length+ys.length<=sizeLine/\
 (ys=[]->Q (.ref a) H)/\(ys≠[]->∀p,H p=none->Q (.ref p) (upd H p (.tup (xs++ys))))
theorem Vals.nil_iff {xs:List V}{us:List Value}(r:Vals xs us):us=[]↔xs=[]:=by
 cases r with
 |nil=>simp
 |cons _ _=>simp
theorem Zja:OpR X (binaryOp .Add) (Zlr X.K):=by
 intro pins s σ H x y v u Q I rx ry h
 obtain⟨a,b,xs,ys,rfl,rfl,ha,hb,hx,hz,q1,q2⟩:=h
 cases rx
 cases ry
 obtain⟨its,r1,p1,_⟩:=I.tuple ha
 obtain⟨its2,r2,p2,_⟩:=I.tuple hb
 refine HT.cat_tup p1 p2 (λz=>hx (r1.nil_iff.mp z)) (λz=>⟨.ref a,H,I,rfl,q1 (r2.nil_iff.mp z)⟩) (λz=>?_) (by rw[<-r1.length,<-r2.length];exact hz)
 refine⟨.ref s.heap.objs.size,_,I.laid (t':=s.toks) (o:=.tup (xs++ys)) (λb ob q=>Heap.get?_push_of_some _ q) (Nat.le_refl _) ?_,rfl,q2 (λw=>z (r2.nil_iff.mpr w)) _ (I.hok.fresh (Nat.le_refl _))⟩
 exact⟨by rw[List.length_append];exact hz,_,r1.append r2,IsTup.new _ _⟩
end
end L2
namespace L2
open PySem PySem.Spec PyProof.Rows
noncomputable def ixN (n:Nat)(i:Int):Option Nat:=if 0<=i then(if i<n then some i.toNat else none) else if -(n:Int)<=i then some (i+n).toNat else none
noncomputable def atI {α:Type}(xs:List α)(i:Int):Option α:=(ixN xs.length i).bind λj=>xs[j]?
theorem Zed {n:Nat}{i:Int}{j:Nat}(h:ixN n i=some j):seqIndex? i n=some j/\j<n/\-(n:Int)<=i/\i<n:=by
 unfold ixN at h
 by_cases h0:0<=i
 ·rw[if_pos h0]at h
  by_cases h1:i<n
  ·rw[if_pos h1]at h
   have e:i.toNat=j:=Option.some.inj h
   exact⟨by rw[seqIndex_of h0 h1,e],by omega,by omega,h1⟩
  ·rw[if_neg h1]at h;cases h
 ·rw[if_neg h0]at h
  by_cases h1:-(n:Int)<=i
  ·rw[if_pos h1]at h
   have e:(i+n).toNat=j:=Option.some.inj h
   exact⟨by rw[seqIndex_neg (by omega) h1,e],by omega,h1,by omega⟩
  ·rw[if_neg h1]at h;cases h
theorem Zee {α:Type}{xs:List α}{i:Int}{v:α}(h:atI xs i=some v):∃j,seqIndex? i xs.length=some j/\xs[j]?=some v/\j<xs.length/\-(xs.length:Int)<=i/\i<xs.length:=by
 unfold atI at h
 cases e:ixN xs.length i with
 |none=>rw[e]at h;cases h
 |some j =>
  rw[e]at h
  obtain⟨h1,h2,h3,h4⟩:=Zed e
  exact⟨j,h1,h,h2,h3,h4⟩
theorem Ya {α:Type}{xs:List α}{j:Nat}{v:α}(h:xs[j]?=some v):atI xs (j:Int)=some v:=by
 have hj:j<xs.length:=(List.getElem?_eq_some_iff.mp h).1
 have e:ixN xs.length (j:Int)=some j:=by
  unfold ixN
  rw[if_pos (by omega),if_pos (by omega)];simp
 unfold atI;rw[e];exact h
noncomputable def Zjb (b:Expr):Prop:=∀o i,subscripted b false o i=operate [o,i] (getItem o i)
noncomputable def IxR (X:Cx)(r:R2):Prop :=
 ∀(value slice:Expr) (pins:List (Addr×Obj)) (s:Shared) (σ:St) (H:Hp) (x y:V) (v u:Value) (Q:VK),Inv X pins σ H s->RelV x v->RelV y u->r x y H Q->
  subscripted slice false v u=operate [v,u] (getItem v u)->wpAny (model X.prog X.w) X.A (subscriptTail value slice v u) (EP X pins σ Q) X.xe s
noncomputable def MtR (X:Cx)(id:String)(r:V->List V->Hp->VK->Prop):Prop :=
 ∀(pins:List (Addr×Obj)) (s:Shared) (σ:St) (H:Hp) (x:V) (xs:List V) (v:Value) (us:List Value) (Q:VK),Inv X pins σ H s->RelV x v->Vals xs us->r x xs H Q->
  wpAny (model X.prog X.w) X.A (call (.builtin id) (v::us)) (EP X pins σ Q) X.xe s
noncomputable section
variable {X:Cx}{a b:Expr}{ta tb:TE}{pos:Pos}
theorem Yp {r:R2}(hr:IxR X r)(ha:PE X a ta)(hb:PE X b tb)(hs:Zjb b):PE X (.Subscript a b pos) (tOp r ta tb):=by
 intro pins s σ H Q I h
 exact Subscript_ (binT ha hb I h λv u s2 x y H2 I2 rx ry q=>hr a b pins s2 σ H2 x y v u Q I2 rx ry q (hs _ _))
noncomputable def rIxL (K:PySem.W.Frag):R2:=λx y H Q=>∃p xs i v,x=.ref p/\y=.int i/\SqL K H p xs/\atI xs i=some v/\Q v H
noncomputable def rIxT (K:PySem.W.Frag):R2:=λx y H Q=>∃p xs i v,x=.ref p/\y=.int i/\SqT K H p xs/\atI xs i=some v/\Q v H
theorem Zy:IxR X (rIxL X.K):=by
 intro value slice pins s σ H x y v u Q I rx ry h hs
 obtain⟨p,xs,i,z,rfl,rfl,hq,he,q⟩:=h
 cases rx
 obtain⟨t,rfl⟩:=ry
 obtain⟨its,r,pl,hz⟩:=I.list hq
 obtain⟨j,h1,h2,h3,h4,h5⟩:=Zee he
 obtain⟨w,ew,rw'⟩:=r.get h2
 have hl:=r.length
 have hn:=Zb0
 have fin:EP X pins σ Q w s:=⟨z,H,I,rw',q⟩
 by_cases h0:0<=i
 ·have hj:i.toNat=j:=by
   rw[seqIndex_of h0 h5]at h1
   exact Option.some.inj h1
  exact item_listR pl.isList h0 (by omega) (by rw[hj];simpa using ew) fin hs
 ·have hj:(i+(its.toArray.size:Int)).toNat=j:=by
   rw[seqIndex_neg (by omega) h4]at h1
   rw[List.size_toArray,<-hl]
   exact Option.some.inj h1
  exact subscriptTail_builtinR (x:=w) pl.isList.typeIs slot_list_getitem.lookup
   (wpAny_getItem_list_neg (Q:=λr s'=>r=w/\EP X pins σ Q r s') pl.isList (by omega) (by rw[List.size_toArray] <;> omega) (by omega) (by rw[hj];simpa using ew) ⟨rfl,fin⟩) hs
theorem Zef:IxR X (rIxT X.K):=by
 intro value slice pins s σ H x y v u Q I rx ry h hs
 obtain⟨p,xs,i,z,rfl,rfl,hq,he,q⟩:=h
 cases rx
 obtain⟨t,rfl⟩:=ry
 obtain⟨its,r,pl,hz⟩:=I.tuple hq
 obtain⟨j,h1,h2,h3,h4,h5⟩:=Zee he
 obtain⟨w,ew,rw'⟩:=r.get h2
 have hl:=r.length
 have hn:=Zb0
 have fin:EP X pins σ Q w s:=⟨z,H,I,rw',q⟩
 exact subscriptTail_builtinR (x:=w) pl.typeIs slot_tuple_getitem.lookup
  (getItem_tuple (j:=j) (Q:=λr s'=>r=w/\EP X pins σ Q r s') pl (by omega) (by omega) (by rw[List.size_toArray,<-hl];exact h1) (by simpa using ew) ⟨rfl,fin⟩) hs
theorem Zck (its:List Value)(n j:Nat)(u:Value):Obj.mapSeq (·.setIfInBounds j u) {cls:=.type "list",data:=.seq its.toArray n}={cls:=.type "list",data:=.seq (its.set j u).toArray n}:=by
 simp[Obj.mapSeq]
theorem Inv.lst {pins:List (Addr×Obj)}{σ:St}{H:Hp}{s:Shared}{p:Addr}{xs:List V}(I:Inv X pins σ H s)(h:H p=some (.lst xs)) :
  ∃(its:List Value) (n:Nat),Vals xs its/\s.heap.get? p=some {cls:=.type "list",data:=.seq its.toArray n}/\xs.length<=sizeLine:=by
 obtain⟨z,its,n,r,e⟩:=I.hok p _ h
 exact⟨its,n,r,e,z⟩
theorem Inv.lstUpd {pins:List (Addr×Obj)}{σ:St}{H:Hp}{s:Shared}{p:Addr}{xs ys:List V}{its its':List Value}{n n':Nat}{f:Obj->Obj}(I:Inv X pins σ H s)(h:H p=some (.lst xs))
  (ho:s.heap.get? p=some {cls:=.type "list",data:=.seq its.toArray n}) (hf:f {cls:=.type "list",data:=.seq its.toArray n}={cls:=.type "list",data:=.seq its'.toArray n'}) (r:Vals ys its') (hz:ys.length<=sizeLine) (t:Nat) :
  Inv X pins σ (upd H p (.lst ys)) {s with heap:=s.heap.update p f,toks:=t}:=by
 have e:(s.heap.update p f).get? p=some {cls:=.type "list",data:=.seq its'.toArray n'}:=by
  rw[Heap.get?_update_self f ho (by rw[hf] <;> rfl),hf]
 refine I.write (x:=p) (e:=p) (by rw[h];trivial) (.inl rfl) (λb u hb q=>(Heap.get?_update_other _ _ (Ne.symm hb)).trans q) ⟨_,e⟩ ?_
 exact⟨hz,its',n',r,e⟩
noncomputable def Zls:V->V->V->Hp->(Hp->Prop)->Prop:=λo i v H Q=>∃p xs k j,o=.ref p/\i=.int k/\H p=some (.lst xs)/\ixN xs.length k=some j/\Q (upd H p (.lst (xs.set j v)))
theorem Jg:PSet X Zls:=by
 intro pins s σ H o i v ov iv u Q I ro ri rv h
 obtain⟨p,xs,k,j,rfl,rfl,hp,hj,q⟩:=h
 cases ro
 obtain⟨t,rfl⟩:=ri
 obtain⟨its,n,r,ho,hz⟩:=I.lst hp
 obtain⟨h1,h2,h3,h4⟩:=Zed hj
 have hl:=r.length
 have hn:=Zb0
 have I':Inv X pins σ (upd H p (.lst (xs.set j v))) {s with heap:=s.heap.update p (Obj.mapSeq (·.setIfInBounds j u))} :=
  I.lstUpd hp ho (Zck its n j u) (r.set rv j) (by rw[List.length_set];exact hz) s.toks
 by_cases h0:0<=k
 ·have hk:k.toNat=j:=by
   rw[seqIndex_of h0 h4]at h1
   exact Option.some.inj h1
  exact PySem.W.ki_setAt ho h0 (by omega) (by rw[List.size_toArray,<-hl];exact h4) (by rw[hk];exact⟨_,I',q⟩)
 ·have hk:(k+(its.toArray.size:Int)).toNat=j:=by
   rw[seqIndex_neg (by omega) h3]at h1
   rw[List.size_toArray,<-hl]
   exact Option.some.inj h1
  exact PySem.W.ki_setBack ho (by omega) (by rw[List.size_toArray,<-hl];exact h3) (by omega) (by rw[hk];exact⟨_,I',q⟩)
theorem Z6p (lo hi:Option Int)(n:Nat):(sliceBounds lo hi none n).1=((HT.sIx n 0 lo:Nat):Int)/\(sliceBounds lo hi none n).2.1=((HT.sIx n n hi:Nat):Int)/\(sliceBounds lo hi none n).2.2=1:=by
 refine⟨?_,?_,rfl⟩
 ·cases lo with
  |none=>simp[sliceBounds,HT.sIx]
  |some i =>
   simp only[sliceBounds,HT.sIx,Option.getD_none,show(1:Int) > 0 by decide,if_true]
   by_cases h:i<0
   ·simp only[h,if_true] <;> omega
   ·simp only[h,if_false] <;> omega
 ·cases hi with
  |none=>simp[sliceBounds,HT.sIx]
  |some i =>
   simp only[sliceBounds,HT.sIx,Option.getD_none,show(1:Int) > 0 by decide,if_true]
   by_cases h:i<0
   ·simp only[h,if_true] <;> omega
   ·simp only[h,if_false] <;> omega
theorem Z3w (its:List Value)(lo hi:Option Int):slicePick its.toArray lo hi none=((its.drop (HT.sIx its.length 0 lo)).take (HT.sIx its.length its.length hi-HT.sIx its.length 0 lo)).toArray:=by
 obtain⟨h1,h2,h3⟩:=Z6p lo hi its.toArray.size
 unfold slicePick
 rw[h1,h2,h3]
 simp only[sliceRange_one,pick_run,List.size_toArray] <;> rfl
noncomputable def rSlL (K:PySem.W.Frag):V->Option Int->Option Int->Hp->VK->Prop:=λx lo hi H Q=>∃a xs,x=.ref a/\SqL K H a xs/\∀p,H p=none->Q (.ref p) (upd H p (.lst (cutV xs lo hi)))
theorem Z3x:SlR X (rSlL X.K):=by
 intro pins s σ H x v vl vu lo hi sl Q I rx hs pl pu h
 obtain⟨a,xs,rfl,hx,q⟩:=h
 cases rx
 obtain⟨its,r,ht,hz⟩:=I.list hx
 have hlen:=r.length
 refine⟨"list",_,slot_list_getitem.lookup,ht.isList.typeIs,?_⟩
 refine wpAny_getItem_list_slice ht.isList hs pl pu .none (by simp) ?_ (by rw[List.size_toArray] <;> omega)
 rw[Z3w,<-hlen]
 refine⟨.ref s.heap.objs.size,_,I.laid (t':=s.toks) (o:=.lst (cutV xs lo hi)) (λb ob q=>Heap.get?_push_of_some _ q) (Nat.le_refl _) ?_,rfl,q _ (I.hok.fresh (Nat.le_refl _))⟩
 exact⟨Nat.le_trans (Js xs lo hi) hz,_,0,(r.drop (HT.sIx xs.length 0 lo)).take (HT.sIx xs.length xs.length hi-HT.sIx xs.length 0 lo),Heap.get?_push_size _ rfl⟩
noncomputable def Z1o:V->Bool
 |.non=>true
 |.bl _=>true
 |.int _=>true
 |.str _=>true
 |_=>false
noncomputable def eqV:V->V->Bool
 |.non,.non=>true
 |.bl a,.bl b=>a==b
 |.bl a,.int b=>(if a then 1 else 0)==b
 |.int a,.bl b=>a==(if b then 1 else 0)
 |.int a,.int b=>a==b
 |.str a,.str b=>a==b
 |_,_=>false
theorem Zkk {A:Around}{s:Shared}{y x:V}{u v:Value}(ry:RelV y u)(rx:RelV x v)(fy:Z1o y=true)(fx:Z1o x=true):SeqAt.EqAt A s u v (eqV y x):=by
 cases y with
 |non =>
  cases ry
  cases x with
  |non=>cases rx;exact SeqAt.EqAt.same _
  |bl b=>cases rx;exact SeqAt.EqAt.none_bool b
  |int b=>obtain⟨t,rfl⟩:=rx;exact SeqAt.EqAt.none_int b t
  |str b=>obtain⟨t,rfl⟩:=rx;exact SeqAt.EqAt.none_str b t
  |_=>exact absurd (show false=true from fx) Bool.false_ne_true
 |bl a =>
  cases ry
  cases x with
  |non=>cases rx;exact SeqAt.EqAt.bool_none a
  |bl b=>cases rx;exact SeqAt.EqAt.bool_bool a b
  |int b=>obtain⟨t,rfl⟩:=rx;exact SeqAt.EqAt.bool_int a b t
  |str b=>obtain⟨t,rfl⟩:=rx;exact SeqAt.EqAt.bool_str a b t
  |_=>exact absurd (show false=true from fx) Bool.false_ne_true
 |int a =>
  obtain⟨t',rfl⟩:=ry
  cases x with
  |non=>cases rx;exact SeqAt.EqAt.int_none a t'
  |bl b=>cases rx;exact SeqAt.EqAt.int_bool a t' b
  |int b=>obtain⟨t,rfl⟩:=rx;exact SeqAt.EqAt.int_int a t' b t
  |str b=>obtain⟨t,rfl⟩:=rx;exact SeqAt.EqAt.int_str a t' b t
  |_=>exact absurd (show false=true from fx) Bool.false_ne_true
 |str a =>
  obtain⟨t',rfl⟩:=ry
  cases x with
  |non=>cases rx;exact SeqAt.EqAt.str_none a t'
  |bl b=>cases rx;exact SeqAt.EqAt.str_bool a t' b
  |int b=>obtain⟨t,rfl⟩:=rx;exact SeqAt.EqAt.str_int a t' b t
  |str b=>obtain⟨t,rfl⟩:=rx;exact SeqAt.EqAt.str_str a t' b t
  |_=>exact absurd (show false=true from fx) Bool.false_ne_true
 |_=>exact absurd (show false=true from fy) Bool.false_ne_true
noncomputable def eqU (x:V)(u:Value):Bool:=match u with
 |.none=>eqV .non x
 |.bool b=>eqV (.bl b) x
 |.int i _=>eqV (.int i) x
 |.str z _=>eqV (.str z) x
 |_=>false
theorem Zic {x y:V}{u:Value}(r:RelV y u)(f:Z1o y=true):eqU x u=eqV y x:=by
 cases y with
 |non=>cases r;rfl
 |bl b=>cases r;rfl
 |int i=>obtain⟨t,rfl⟩:=r;rfl
 |str z=>obtain⟨t,rfl⟩:=r;rfl
 |_=>exact absurd (show false=true from f) Bool.false_ne_true
theorem Jt {x:V}:∀{xs:List V} {us:List Value},Vals xs us->xs.all Z1o=true->us.any (eqU x)=xs.any λy=>eqV y x
 |_,_,.nil,_=>rfl
 |y::xs,u::us,.cons r t,f=>by
  rw[List.all_cons,Bool.and_eq_true]at f
  rw[List.any_cons,List.any_cons,Zic r f.1,Jt t f.2]
theorem Pd {A:Around}{s:Shared}{x:V}{v:Value}(rx:RelV x v)(fx:Z1o x=true):∀{xs:List V} {us:List Value},Vals xs us->xs.all Z1o=true->∀u∈us,SeqAt.EqAt A s u v (eqU x u)
 |_,_,.nil,_=>λu hu=>by cases hu
 |y::xs,u::us,.cons r t,f=>λu' hu=>by
  rw[List.all_cons,Bool.and_eq_true]at f
  rcases List.mem_cons.mp hu with rfl | hu
  ·rw[Zic r f.1];exact Zkk r rx f.1 fx
  ·exact Pd rx fx t f.2 u' hu
noncomputable def inV (x:V)(xs:List V):Bool:=xs.any λy=>eqV y x
noncomputable def rIn (K:PySem.W.Frag)(neg:Bool):R2:=λx y H Q=>∃p xs,y=.ref p/\(SqL K H p xs\/SqT K H p xs)/\Z1o x=true/\xs.all Z1o=true/\Q (.bl (if neg then !inV x xs else inV x xs)) H
theorem Xh:OpR X (compareOp .In) (rIn X.K false):=by
 intro pins s σ H x y v u Q I rx ry h
 obtain⟨p,xs,rfl,hq,fx,fs,q⟩:=h
 cases ry
 rcases hq with hq | hq
 ·obtain⟨its,r,pl,hz⟩:=I.list hq
  refine SeqAt.in_listAt (eqU x) pl.isList (λw hw=>Pd rx fx r fs w (by simpa using hw)) ⟨.bl _,H,I,rfl,?_⟩
  rw[show its.toArray.any (eqU x)=its.any (eqU x) by simp,Jt r fs]
  exact q
 ·obtain⟨its,r,pl,hz⟩:=I.tuple hq
  refine SeqAt.in_tupleAt (eqU x) pl (λw hw=>Pd rx fx r fs w (by simpa using hw)) ⟨.bl _,H,I,rfl,?_⟩
  rw[show its.toArray.any (eqU x)=its.any (eqU x) by simp,Jt r fs]
  exact q
theorem Vm:OpR X (compareOp .NotIn) (rIn X.K true):=by
 intro pins s σ H x y v u Q I rx ry h
 obtain⟨p,xs,rfl,hq,fx,fs,q⟩:=h
 cases ry
 rcases hq with hq | hq
 ·obtain⟨its,r,pl,hz⟩:=I.list hq
  refine SeqAt.notIn_listAt (eqU x) pl.isList (λw hw=>Pd rx fx r fs w (by simpa using hw)) ⟨.bl _,H,I,rfl,?_⟩
  rw[show its.toArray.any (eqU x)=its.any (eqU x) by simp,Jt r fs]
  exact q
 ·obtain⟨its,r,pl,hz⟩:=I.tuple hq
  refine SeqAt.notIn_tupleAt (eqU x) pl (λw hw=>Pd rx fx r fs w (by simpa using hw)) ⟨.bl _,H,I,rfl,?_⟩
  rw[show its.toArray.any (eqU x)=its.any (eqU x) by simp,Jt r fs]
  exact q
theorem Z6q:Rn X (.builtin "len") (λxs H Q=>∃p ys,xs=[.ref p]/\(SqL X.K H p ys\/SqT X.K H p ys)/\Q (.int ys.length) H):=by
 intro pins s σ H xs us Q I r h
 obtain⟨p,ys,rfl,hq,q⟩:=h
 obtain⟨u,rfl,rx⟩:=Zgz r
 cases rx
 have hn:=Zb0
 rcases hq with hq | hq
 ·obtain⟨its,r',pl,hz⟩:=I.list hq
  have hlen:=r'.length
  exact Calls.call_len_list pl.isList (by simp only[List.size_toArray] <;> omega) ⟨.int ys.length,H,I.tok _,⟨s.toks+1,by rw[List.size_toArray,hlen]⟩,q⟩
 ·obtain⟨its,r',pl,hz⟩:=I.tuple hq
  have hlen:=r'.length
  exact len_tuple pl (by simp only[List.size_toArray] <;> omega) ⟨.int ys.length,H,I.tok _,⟨s.toks+1,by rw[List.size_toArray,hlen]⟩,q⟩
theorem Z3y:Rn X (.type "tuple") (λxs H Q=>∃p ys,xs=[.ref p]/\((SqL X.K H p ys/\∀l,H l=none->Q (.ref l) (upd H l (.tup ys)))\/(SqT X.K H p ys/\Q (.ref p) H))):=by
 intro pins s σ H xs us Q I r h
 obtain⟨p,ys,rfl,h⟩:=h
 obtain⟨u,rfl,rx⟩:=Zgz r
 cases rx
 rcases h with⟨hq,q⟩ | ⟨hq,q⟩
 ·obtain⟨its,r',pl,hz⟩:=I.list hq
  have hlen:=r'.length
  refine call_tuple_list pl.isList (λh' kp=>?_) (by simp only[List.size_toArray] <;> omega)
  have I1:Inv X pins σ H {s with heap:=h'}:=I.kept (t':=s.toks) kp
  have I2:Inv X pins σ (upd H h'.objs.size (.tup ys)) {s with heap:=h'.push {cls:=.type "tuple",data:=.seq its.toArray}} :=
   I1.laid (t':=s.toks) (λb o e=>Heap.get?_push_of_some _ e) (Nat.le_refl _) (show ObjOk X.prog X.w _ _ _ (.tup ys) from⟨hz,its,r',IsTup.new _ _⟩)
  exact⟨.ref h'.objs.size,_,I2,rfl,q _ (I1.hok.fresh (Nat.le_refl _))⟩
 ·obtain⟨its,r',pl,hz⟩:=I.tuple hq
  exact call_tuple_same pl ⟨.ref p,H,I,rfl,q⟩
noncomputable def tyV (K:PySem.W.Frag)(T:String)(x:V)(H:Hp):Prop:=match x with
 |.str _=>T="str"
 |.int _=>T="int"
 |.ref p=>(T="list"/\∃xs,SqL K H p xs)\/(T="tuple"/\∃o,K.lookup p=some o/\o.cls=.type "tuple"/\o.dict=none)\/
   (T="dict"/\((∃kvs,H p=some (.dK kvs))\/∃kvs,H p=some (.dT kvs)))\/(T="set"/\∃S n,H p=some (.set S n))
 |_=>False
theorem Zkl {pins:List (Addr×Obj)}{σ:St}{H:Hp}{s:Shared}{T:String}{x:V}{v:Value}(I:Inv X pins σ H s)(r:RelV x v)(ty:tyV X.K T x H) :
  s.TypeIs v T/\∀a,v=.ref a->∃ob,s.heap.get? a=some ob/\ob.dict=none:=by
 cases x with
 |str z =>
  obtain⟨t,rfl⟩:=r
  cases (show T="str" from ty)
  exact⟨typeIs_str s z t,λ_ e=>nomatch e⟩
 |int i =>
  obtain⟨t,rfl⟩:=r
  cases (show T="int" from ty)
  exact⟨typeIs_int s i t,λ_ e=>nomatch e⟩
 |ref p =>
  cases r
  rcases ty with⟨rfl,xs,hq⟩ | ⟨rfl,o,hk,hc,hd⟩ | ⟨rfl,hk⟩ | ⟨rfl,S,n,hk⟩
  ·obtain⟨its,_,pl,_⟩:=I.list hq
   refine⟨pl.isList.typeIs,λa e=>?_⟩
   cases e
   obtain⟨o,n,e,c,hd,_⟩:=pl
   exact⟨o,e,hd⟩
  ·refine⟨⟨o,I.kIn p o hk,hc⟩,λa e=>?_⟩
   cases e
   exact⟨o,I.kIn _ o hk,hd⟩
  ·have z:∃o,s.heap.get? p=some o/\o.ExactDict:=by
    rcases hk with⟨kvs,hk⟩ | ⟨kvs,hk⟩
    ·obtain⟨_,_,_,_,o,_,_,e,ex,_⟩:=I.hok p _ hk
     exact⟨o,e,ex⟩
    ·obtain⟨_,_,_,_,o,_,_,e,ex,_⟩:=I.hok p _ hk
     exact⟨o,e,ex⟩
   obtain⟨o,e,ex⟩:=z
   refine⟨⟨o,e,ex.1⟩,λa e2=>?_⟩
   cases e2
   exact⟨o,e,ex.2.1⟩
  ·obtain⟨o,_,_,_,e,ex,_⟩:=I.hok p _ hk
   refine⟨⟨o,e,ex.1⟩,λa e2=>?_⟩
   cases e2
   exact⟨o,e,ex.2.1⟩
 |_=>exact False.elim ty
noncomputable def tBM (K:PySem.W.Frag)(T:String)(r:V->List V->Hp->VK->Prop)(to:TE)(t:TA):TE:=λσ H Q=>to σ H λx H1=>tyV K T x H1/\t σ H1 λxs H2=>r x xs H2 Q
variable {o e:Expr}{es:List Expr}{to:TE}{t:TA}{name:Str}{apos cpos:Pos}{T id:String}{r:V->List V->Hp->VK->Prop}
theorem Zjc (pa:PlainAttrs T)(slot:Slot T name id)(hty:typeOf (.builtin id)=pure (.type "method_descriptor"))(hm:MtR X id r)(ho:PE X o to)(ha:PA X (e::es) t)
  (hbase:attributeBase o name X.env (eval o X.env)=eval o X.env:=by rfl)
  (hfew:((backTo cpos (starEach (e::es) X.env)).all (λx=>!x.1)&&(backToKw cpos (keywordEach [] X.env)).all (λx=>x.1.isSome)
   && decide ((e::es).length+([]:List Keyword).length+(if([]:List Keyword).isEmpty then 0 else 1)<30))=true:=by rfl)
  (hline:(apos.endLine==cpos.line)=true:=by rfl) (hs:starEach (e::es) X.env=(false,eval e X.env)::starEach es X.env:=by rfl) (hplain:(backTo cpos (starEach es X.env)).any (·.1)=false:=by rfl) :
  PE X (.Call (.Attribute o name apos) (e::es) [] cpos) (tBM X.K T r to t):=by
 intro pins s σ H Q I h
 refine wpAny_Call_method_late hbase hfew hline rfl (thn (ho pins s σ H _ I h) λv s1 ⟨x,H1,I1,r1,ty,q1⟩=>?_)
 obtain⟨h1,h2⟩:=Zkl I1 r1 ty
 refine⟨T,id,pa,slot,hty,h1,h2,?_⟩
 have hA:=ha cpos pins s1 σ H1 _ I1 q1
 rw[hs]at hA ⊢
 refine Calls.callWith_builtin (by show(false||(backTo cpos (starEach es X.env)).any (·.1))=false;rw[hplain] <;> rfl) (Calls.evalArgs_plain ?_)
 exact thn hA λus s2 ⟨vs,H2,I2,r2,q2⟩=>hm pins s2 σ H2 x vs v us Q I2 r1 r2 q2
end
end L2
namespace L2
open PySem PySem.Spec PyProof.Rows
noncomputable def MtM (X:Cx)(id:String)(r:V->List V->Hp->VK->Prop):Prop :=
 ∀(pins:List (Addr×Obj)) (s:Shared) (σ:St) (H:Hp) (x:V) (xs:List V) (v:Value) (us:List Value) (Q:VK),Inv X pins σ H s->RelV x v->Vals xs us->r x xs H Q->
  wpAny (model X.prog X.w) X.A (call (.builtin id) (v::us)) (EP X pins σ Q) X.xe s
theorem Vals.one:∀{x:V} {us:List Value},Vals [x] us->∃u,us=[u]/\RelV x u
 |_,_,.cons r .nil=>⟨_,rfl,r⟩
theorem Vals.rep {xs:List V}{us:List Value}(h:Vals xs us):∀k:Nat,Vals (List.replicate k xs).flatten (List.replicate k us).flatten
 |0=>.nil
 |k+1=>by
  rw[List.replicate_succ,List.replicate_succ,List.flatten_cons,List.flatten_cons]
  exact Vals.append h (Vals.rep h k)
theorem Z6r (its:List Value):∀(k:Nat) (acc:List Value),
  List.foldl (λx1 x2=>x1++x2) acc.toArray (List.replicate k its.toArray)=(acc++(List.replicate k its).flatten).toArray
 |0,acc=>by simp
 |k+1,acc=>by
  have e:acc.toArray++its.toArray=(acc++its).toArray:=by simp
  have e2:(acc++its)++(List.replicate k its).flatten=acc++(List.replicate (k+1) its).flatten:=by
   rw[List.replicate_succ,List.flatten_cons,List.append_assoc]
  rw[<-e2,<-Z6r its k (acc++its),<-e,List.replicate_succ,List.foldl_cons]
noncomputable section
variable {X:Cx}{pins:List (Addr×Obj)}{σ:St}{H:Hp}{s:Shared}{l b:Addr}{xs ys zs:List V}
theorem Inv.lset {its its':List Value}{n:Nat}{f:Array Value->Array Value}{t':Nat}(I:Inv X pins σ H s)(hH:H l=some (.lst xs))
  (e:s.heap.get? l=some {cls:=.type "list",data:=.seq its.toArray n}) (hf:f its.toArray=its'.toArray) (hv:Vals ys its') (hz:ys.length<=sizeLine) :
  Inv X pins σ (upd H l (.lst ys)) {s with heap:=s.heap.update l (Obj.mapSeq f),toks:=t'}:=by
 have q:=PySem.IsL.update e f
 rw[hf]at q
 refine I.write (x:=l) (e:=l) (by rw[hH];exact trivial) (.inl rfl) (λb' u hb hu=>(Heap.get?_update_other s.heap (Obj.mapSeq f) (Ne.symm hb)).trans hu) ⟨_,q⟩ ?_
 exact⟨hz,its',_,hv,q⟩
theorem Inv.lnew {its:List Value}{t':Nat}(I:Inv X pins σ H s)(hv:Vals ys its)(hz:ys.length<=sizeLine) :
  Inv X pins σ (upd H s.heap.objs.size (.lst ys)) {s with heap:=s.heap.push {cls:=.type "list",data:=.seq its.toArray},toks:=t'} :=
 I.laid (λ_ _ q=>Heap.get?_push_of_some _ q) (Nat.le_refl _) ⟨hz,its,0,hv,Heap.get?_push_size _ rfl⟩
theorem Inv.fresh (I:Inv X pins σ H s):H s.heap.objs.size=none:=I.hok.fresh (Nat.le_refl _)
theorem Inv.lstM (I:Inv X pins σ H s)(hH:H l=some (.lst xs)):xs.length<=sizeLine/\∃(its:List Value) (n:Nat),Vals xs its/\xs.length=its.length/\s.heap.get? l=some {cls:=.type "list",data:=.seq its.toArray n}:=by
 obtain⟨z,its,n,r,e⟩:=I.hok l _ hH
 exact⟨z,its,n,r,r.length,e⟩
theorem Zb3 {n:Nat}(h:n<=sizeLine):Builtin.List.listTooLong n=false:=by
 unfold Builtin.List.listTooLong
 exact decide_eq_false (by omega)
end
noncomputable section
variable {X:Cx}
noncomputable def Zjd:V->List V->Hp->VK->Prop:=λx vs H Q=>∃l xs y,x=.ref l/\vs=[y]/\H l=some (.lst xs)/\xs.length<sizeLine/\Q .non (upd H l (.lst (xs++[y])))
theorem Zeg:MtM X "list.append" Zjd:=by
 intro pins s σ H x vs v us Q I rx rv h
 obtain⟨l,xs,y,rfl,rfl,hH,hz,q⟩:=h
 cases rx
 obtain⟨u,rfl,ru⟩:=rv.one
 obtain⟨z,its,n,r,hl,e⟩:=I.lstM hH
 refine call_meets F.slot_list_append ⟨_,e,rfl⟩ F.entry_list_append (F.args_list_append_2 _ _) (PySem.list_append l its.toArray n u (by rw[List.size_toArray];omega)) ⟨e,?_⟩
 refine⟨.non,_,I.lset (its':=its++[u]) hH e (by simp) (r.append (.cons ru .nil)) ?_,rfl,q⟩
 rw[List.length_append,List.length_singleton]
 omega
noncomputable def Zje:V->List V->Hp->VK->Prop:=λx vs H Q=>∃l b xs zs,x=.ref l/\vs=[.ref b]/\H l=some (.lst xs)/\H b=some (.lst zs)/\xs.length+zs.length<=sizeLine/\Q .non (upd H l (.lst (xs++zs)))
theorem Zeh:MtM X "list.extend" Zje:=by
 intro pins s σ H x vs v us Q I rx rv h
 obtain⟨l,b,xs,zs,rfl,rfl,hH,hB,hz,q⟩:=h
 cases rx
 obtain⟨u,rfl,ru⟩:=rv.one
 cases ru
 obtain⟨z,its,n,r,hl,e⟩:=I.lstM hH
 obtain⟨z2,its2,n2,r2,hl2,e2⟩:=I.lstM hB
 have hsz:its.toArray.size+its2.toArray.size<=sizeLine:=by rw[List.size_toArray,List.size_toArray];omega
 have hlong:¬(!its.toArray.isEmpty&&Builtin.List.listTooLong (its.toArray.size+its2.toArray.size))=true:=by
  rw[Zb3 hsz,Bool.and_false]
  exact Bool.false_ne_true
 refine call_meets F.slot_list_extend ⟨_,e,rfl⟩ F.entry_list_extend (F.args_list_extend_2 _ _)
  (AutoSeq1.list_extend_list_list_0 l its.toArray n b its2.toArray n2 hlong (by rw[List.size_toArray];omega) (by omega)) ⟨e,e2,?_⟩
 refine⟨.non,_,I.lset (its':=its++its2) hH e (by simp) (r.append r2) ?_,rfl,q⟩
 rw[List.length_append]
 omega
noncomputable def rCat:R2:=λx y H Q=>∃l b xs zs,x=.ref l/\y=.ref b/\H l=some (.lst xs)/\H b=some (.lst zs)/\xs.length+zs.length<=sizeLine/\∀p,H p=none->Q (.ref p) (upd H p (.lst (xs++zs)))
theorem Pe:OpR X (binaryOp .Add) rCat:=by
 intro pins s σ H x y v u Q I rx ry h
 obtain⟨l,b,xs,zs,rfl,rfl,hH,hB,hz,q⟩:=h
 cases rx
 cases ry
 obtain⟨z,its,n,r,hl,e⟩:=I.lstM hH
 obtain⟨z2,its2,n2,r2,hl2,e2⟩:=I.lstM hB
 refine PySem.P.add_list e e2 ?_ (by rw[List.size_toArray,List.size_toArray];omega)
 have ea:its.toArray++its2.toArray=(its++its2).toArray:=by simp
 rw[ea]
 exact⟨.ref _,_,I.lnew (t':=s.toks) (r.append r2) (by rw[List.length_append];omega),rfl,q _ I.fresh⟩
theorem Zei {α:Type}(xs:List α)(k:Nat):(List.replicate k xs).flatten.length=k*xs.length:=by
 induction k with
 |zero=>simp
 |succ k ih=>rw[List.replicate_succ,List.flatten_cons,List.length_append,ih,Nat.succ_mul,Nat.add_comm]
end
noncomputable section
variable {prog:Program}{w:World}{A:Around}{E:Value->Shared->Prop}{s:Shared}
set_option maxRecDepth 100000 in
end
noncomputable section
variable {X:Cx}
end
end L2
namespace L2
open PySem PySem.Spec PyProof.Rows
theorem Vals.ints:∀{ns:List Int} {us:List Value},Vals (ns.map V.int) us->IntsAre us ns
 |[],us,h=>by
  rw[List.map_nil]at h
  cases h
  exact IntsAre.nil
 |n::ns,us,h=>by
  rw[List.map_cons]at h
  cases h with
  |cons r t =>
   obtain⟨k,rfl⟩:=r
   exact IntsAre.cons n k (Vals.ints t)
theorem Tg:∀{us:List Value} {ns:List Int},IntsAre us ns->Vals (ns.map V.int) us
 |_,_,.nil=>by rw[List.map_nil];exact Paired.nil
 |_,_,.cons n t h=>by rw[List.map_cons];exact Paired.cons (show RelV (V.int n) (Value.int n t) from⟨t,rfl⟩) (Tg h)
theorem Vals.bls:∀{bs:List Bool} {us:List Value},Vals (bs.map V.bl) us->us=bs.map Value.bool
 |[],us,h=>by
  rw[List.map_nil]at h
  cases h
  rfl
 |b::bs,us,h=>by
  rw[List.map_cons]at h
  cases h with
  |cons r t =>
   cases r
   rw[Vals.bls t,List.map_cons]
theorem Vals.ref1 {a:Addr}{us:List Value}(r:Vals [V.ref a] us):us=[Value.ref a]:=by
 cases r with
 |cons r t =>
  cases t
  cases r
  rfl
noncomputable section
variable {prog:Program}{w:World}{A:Around}{E:Value->Shared->Prop}{s:Shared}{l:Addr}{its:List Value}{ns:List Int}{Q:Value->Shared->Prop}
theorem Zjf (hh:A.handled=none)(hl:s.heap.IsList l its.toArray)(hi:IntsAre its ns)
  (h:∀h' tk t',(∀b o,s.heap.get? b=some o->h'.get? b=some o)->Q (.int ns.sum t') {s with heap:=h',toks:=tk}):wpAny (model prog w) A (call (.builtin "sum") [.ref l]) Q E s:=by
 obtain⟨xs,e⟩:=hi.allInts.items
 have hn:numsOf (intItems xs).toList=ns:=by rw[<-e];exact hi.numsOf
 rw[nums_intItems]at hn
 rw[e]at hl
 refine PySem.sum_intListG hh hl λh' tk t' hk=>?_
 have:=h h' tk t' hk
 rw[preSum_eq,List.take_of_length_le (by simp),hn];exact this
theorem Zjg (hh:A.handled=none)(hl:s.heap.IsList l its.toArray)(hi:IntsAre its ns)(hne:0<ns.length)
  (h:∀h' tk M t',(∀b o,s.heap.get? b=some o->h'.get? b=some o)->M∈ns->(∀a,a∈ns->a<=M)->Q (.int M t') {s with heap:=h',toks:=tk}):wpAny (model prog w) A (call (.builtin "max") [.ref l]) Q E s:=by
 obtain⟨xs,e⟩:=hi.allInts.items
 have hn:numsOf (intItems xs).toList=ns:=by rw[<-e];exact hi.numsOf
 rw[nums_intItems]at hn
 subst hn
 rw[e]at hl
 have hsz:0<xs.size:=by simpa using hne
 refine PySem.max_intList hh hl hsz λv h' tk hv hk=>?_
 obtain⟨t,rfl⟩:=intItems_at hv
 obtain⟨h1,h2⟩:=argBest_gt (numAt xs) (xs.size-1)
 refine h h' tk _ t hk ?_ λa ha=>?_
 ·rw[numAt_eq];exact PySem.getD_mem (by rw[List.length_map,Array.length_toList];omega)
 ·obtain⟨j,hj,rfl⟩:=mem_getD ha
  rw[List.length_map,Array.length_toList]at hj
  rw[<-numAt_eq];exact h2 j (by omega)
end
noncomputable section
variable {X:Cx}
noncomputable def rSum (K:PySem.W.Frag):List V->Hp->VK->Prop:=λvs H Q=>∃(a:Addr) (ns:List Int),vs=[V.ref a]/\SqL K H a (ns.map V.int)/\Q (.int ns.sum) H
noncomputable def rMax (K:PySem.W.Frag):List V->Hp->VK->Prop:=λvs H Q=>∃(a:Addr) (ns:List Int),vs=[V.ref a]/\SqL K H a (ns.map V.int)/\0<ns.length/\∀m,m∈ns->(∀y,y∈ns->y<=m)->Q (.int m) H
theorem Zb4 (hc:X.calm=true):Rn X (.builtin "sum") (rSum X.K):=by
 intro pins s σ H vs us Q I r h
 obtain⟨a,ns,rfl,hs,q⟩:=h
 obtain⟨its,rv,hl,_⟩:=I.list hs
 rw[Vals.ref1 r]
 exact Zjf (I.ok.hd hc) hl.isList rv.ints λh' tk t' hk=>⟨.int _,H,I.kept hk,⟨_,rfl⟩,q⟩
theorem Zkm (hc:X.calm=true):Rn X (.builtin "max") (rMax X.K):=by
 intro pins s σ H vs us Q I r h
 obtain⟨a,ns,rfl,hs,hne,q⟩:=h
 obtain⟨its,rv,hl,_⟩:=I.list hs
 rw[Vals.ref1 r]
 exact Zjg (I.ok.hd hc) hl.isList rv.ints hne λh' tk m t' hk h1 h2=>⟨.int _,H,I.kept hk,⟨_,rfl⟩,q m h1 h2⟩
theorem Z9s {n:Nat}(h:n<64):n<=sizeLine:=by rw[sizeLine_eq];omega
end
noncomputable section
variable {X:Cx}
end
noncomputable section
variable {X:Cx}
end
theorem Zb5 {prog:Program}{w:World}{A:Around}{E:Value->Shared->Prop}{s:Shared}{l:Addr}{items:Array Value}{Q:Value->Shared->Prop}(hl:s.heap.IsList l items)
  (h:∀s₂:Shared,s₂={s with heap:=s.heap.push {cls:=.type "list_iterator",data:=.fields #[.ref l,.int 0 0]}}->
   (s₂.heap.IsListIter s.heap.objs.size l 0/\s₂.heap.IsList l items)->l≠s.heap.objs.size->Q (.ref s.heap.objs.size) s₂):wpAny (model prog w) A (pyIter (.ref l)) Q E s:=by
 have hlt:l<s.heap.objs.size:=by obtain⟨_,e,_⟩:=hl;exact Heap.lt_size e
 exact wpAny_pyIter_list hl (h _ rfl ⟨⟨_,Heap.get?_push_size _ rfl,rfl,rfl⟩,hl.push _⟩ (Nat.ne_of_lt hlt))
theorem Ju {prog:Program}{w:World}{A:Around}{bs:List Bool}{its:List Value}(e:its=bs.map Value.bool) :
  TruthOf prog w A (λi v=>its.toArray[i]?=some v) (λi=>bs.getD i false):=λi v s Q E hv hq=>by
 have hv':its[i]?=some v:=by simpa using hv
 rw[e,List.getElem?_map]at hv'
 obtain⟨b,hb,rfl⟩:=Option.map_eq_some_iff.mp hv'
 have hg:bs.getD i false=b:=by rw[List.getD_eq_getElem?_getD,hb] <;> rfl
 have hq':Q (bs.getD i false) s:=hq
 rw[hg]at hq'
 exact wpAny_truthy_bool hq'
theorem Z6s:∀bs:List Bool,(List.range bs.length).any (λi=>bs.getD i false)=bs.any id
 |[]=>rfl
 |b::bs=>by
  rw[List.length_cons,List.range_succ_eq_map,List.any_cons,List.any_map,List.any_cons,<-Z6s bs]
  all_goals rfl
theorem Z6t:∀bs:List Bool,(List.range bs.length).all (λi=>bs.getD i false)=bs.all id
 |[]=>rfl
 |b::bs=>by
  rw[List.length_cons,List.range_succ_eq_map,List.all_cons,List.all_map,List.all_cons,<-Z6t bs]
  all_goals rfl
noncomputable section
variable {X:Cx}
noncomputable def rAny (K:PySem.W.Frag):List V->Hp->VK->Prop:=λvs H Q=>∃(a:Addr) (bs:List Bool),vs=[V.ref a]/\SqL K H a (bs.map V.bl)/\Q (.bl (bs.any id)) H
noncomputable def rAll (K:PySem.W.Frag):List V->Hp->VK->Prop:=λvs H Q=>∃(a:Addr) (bs:List Bool),vs=[V.ref a]/\SqL K H a (bs.map V.bl)/\Q (.bl (bs.all id)) H
theorem Zid (hc:X.calm=true):Rn X (.builtin "any") (rAny X.K):=by
 intro pins s σ H vs us Q I r h
 obtain⟨a,bs,rfl,hs,q⟩:=h
 obtain⟨its,rv,hl,_⟩:=I.list hs
 rw[Vals.ref1 r]
 have hb:=rv.bls
 refine call_any_walk (Zb5 hl.isList λs₂ e2 st hne=>?_)
 subst e2
 refine⟨_,_,_,_,_,_,_,rfl,Walks.list (A:=X.A.in1) (I.ok.hd hc) _ a hne its.toArray,st,Ju hb,λh' tk hk=>?_⟩
 refine⟨.bl _,H,I.kept λb o eo=>hk b o (λhmem=>?_) (Heap.get?_push_of_some _ eo),?_,q⟩
 ·rcases List.mem_cons.mp hmem with e1 | hmem
  ·exact absurd (e1▸Heap.lt_size eo) (Nat.lt_irrefl _)
  ·cases hmem
 ·show Value.bool _=Value.bool _
  rw[<-Z6s,hb,List.size_toArray,List.length_map]
theorem Z2x (hc:X.calm=true):Rn X (.builtin "all") (rAll X.K):=by
 intro pins s σ H vs us Q I r h
 obtain⟨a,bs,rfl,hs,q⟩:=h
 obtain⟨its,rv,hl,_⟩:=I.list hs
 rw[Vals.ref1 r]
 have hb:=rv.bls
 refine call_all_walk (Zb5 hl.isList λs₂ e2 st hne=>?_)
 subst e2
 refine⟨_,_,_,_,_,_,_,rfl,Walks.list (A:=X.A.in1) (I.ok.hd hc) _ a hne its.toArray,st,Ju hb,λh' tk hk=>?_⟩
 refine⟨.bl _,H,I.kept λb o eo=>hk b o (λhmem=>?_) (Heap.get?_push_of_some _ eo),?_,q⟩
 ·rcases List.mem_cons.mp hmem with e1 | hmem
  ·exact absurd (e1▸Heap.lt_size eo) (Nat.lt_irrefl _)
  ·cases hmem
 ·show Value.bool _=Value.bool _
  rw[<-Z6t,hb,List.size_toArray,List.length_map]
end
noncomputable section
variable {X:Cx}{pins:List (Addr×Obj)}{σ:St}{H:Hp}{s:Shared}
end
noncomputable section
variable {X:Cx}
end
end L2
namespace L2
open PySem PySem.Spec PyProof.Rows
abbrev Zie (h:Heap)(c:Addr)(v:Option Value):Prop:=h.IsCell c v
noncomputable def relS (scope sc:Scope):Scope :=
 {scope with names:=scope.names.map λ(n,k)=>if(k==.free&&sc.kind==.function&&sc.names.lookup n==some .cell) then(n,.cell) else(n,k)}
noncomputable def Yo (cells:List (Str×Addr)):List (Str×NameKind)->List (Str×Addr)->List (Str×Addr)
 |[],acc=>acc
 |(n,k)::r,acc=>if k==.free then Yo cells r ((n,(cells.lookup n).getD 0)::acc) else Yo cells r acc
theorem Nq (env:Env)(f:Str×NameKind->List (Str×Addr)->Sem (ForInStep (List (Str×Addr))))
  (hf:∀n k c,f (n,k) c=if k==.free then(do let a<-cellOf env n;pure (.yield ((n,a)::c))) else pure (.yield c)) :
  ∀(names:List (Str×NameKind)) (acc:List (Str×Addr)),(∀y∈names,y.2=.free->∃c,env.cells.lookup y.1=some c)->forIn names acc f=pure (Yo env.cells names acc)
 |[],acc,_=>by rw[List.forIn_nil];rfl
 |(n,k)::r,acc,h=>by
  rw[List.forIn_cons,hf]
  have ih:=λacc=>Nq env f hf r acc λy hy=>h y (List.mem_cons_of_mem _ hy)
  unfold Yo
  by_cases hk:(k==NameKind.free)=true
  ·rw[if_pos hk,if_pos hk]
   obtain⟨c,hc⟩:=h (n,k) List.mem_cons_self (by simpa using hk)
   have e:cellOf env n=pure c:=by unfold cellOf;rw[hc]
   rw[e]
   have e2:(env.cells.lookup n).getD 0=c:=by rw[hc];rfl
   rw[e2]
   exact ih _
  ·rw[if_neg hk,if_neg hk]
   exact ih _
theorem Zcl {scope:Scope}{env:Env}(h:∀y∈scope.names,y.2=.free->∃c,env.cells.lookup y.1=some c):closureFor scope env=pure (Yo env.cells scope.names []):=by
 simp only[closureFor]
 rw[Nq env _ (λn k c=>rfl) scope.names [] h]
 rfl
theorem Om {α:Type}:∀{l:List (Str×α)} {n:Str} {c:α},(n,c)∈l->∃c',l.lookup n=some c'
 |(k,v)::r,n,c,h=>by
  rw[List.lookup_cons]
  cases hb:n==k with
  |true=>exact⟨_,rfl⟩
  |false =>
   rcases List.mem_cons.mp h with e | h
   ·cases e;simp at hb
   ·exact Om h
theorem Uc {cells:List (Str×Addr)}:∀{names:List (Str×NameKind)} {acc:List (Str×Addr)} {n:Str} {c:Addr},(n,c)∈Yo cells names acc->(n,c)∈acc\/((n,.free)∈names/\c=(cells.lookup n).getD 0)
 |[],_,_,_,h=>.inl h
 |(m,k)::r,acc,n,c,h=>by
  unfold Yo at h
  split at h
  ·rename_i hk
   have hk:k=.free:=by simpa using hk
   rcases Uc h with h | ⟨h1,h2⟩
   ·rcases List.mem_cons.mp h with e | h
    ·cases e;exact .inr ⟨hk▸List.mem_cons_self,rfl⟩
    ·exact .inl h
   ·exact .inr ⟨List.mem_cons_of_mem _ h1,h2⟩
  ·rcases Uc h with h | ⟨h1,h2⟩
   ·exact .inl h
   ·exact .inr ⟨List.mem_cons_of_mem _ h1,h2⟩
theorem Rp {cells:List (Str×Addr)}:∀{names:List (Str×NameKind)} {acc:List (Str×Addr)} {p:Str×Addr},p∈acc->p∈Yo cells names acc
 |[],_,_,h=>h
 |(m,k)::r,acc,p,h=>by
  unfold Yo
  split
  ·exact Rp (List.mem_cons_of_mem _ h)
  ·exact Rp h
theorem Rq {cells:List (Str×Addr)}:∀{names:List (Str×NameKind)} {acc:List (Str×Addr)} {n:Str},(n,.free)∈names->(n,(cells.lookup n).getD 0)∈Yo cells names acc
 |(m,k)::r,acc,n,h=>by
  unfold Yo
  rcases List.mem_cons.mp h with e | h
  ·cases e
   exact Rp List.mem_cons_self
  ·split
   ·exact Rq h
   ·exact Rq h
theorem Th:∀{names:List (Str×NameKind)} {h:Heap} {acc:List (Str×Addr)} {x:Str} {c:Addr},(x,c)∈cellsFrom h.objs.size names acc->
  (x,c)∈acc\/((x,.cell)∈names/\h.objs.size<=c/\Zie (pushCells h names) c none)
 |[],_,_,_,_,h=>.inl h
 |(n,k)::r,h,acc,x,c,hm=>by
  unfold cellsFrom at hm
  unfold pushCells
  split at hm
  ·rename_i hk
   rw[if_pos hk]
   have hk:k=.cell:=by simpa using hk
   rw[<-Heap.size_push h {cls:=.type "cell",data:=.cell none}]at hm
   rcases Th hm with hm | ⟨h1,h2,h3⟩
   ·rcases List.mem_cons.mp hm with e | hm
    ·cases e
     exact .inr ⟨hk▸List.mem_cons_self,Nat.le_refl _,_,pushCells_keeps r _ _ _ (Heap.get?_push_size _ rfl),rfl⟩
    ·exact .inl hm
   ·rw[Heap.size_push]at h2
    exact .inr ⟨List.mem_cons_of_mem _ h1,Nat.le_of_succ_le h2,h3⟩
  ·rename_i hk
   rw[if_neg hk]
   rcases Th hm with hm | ⟨h1,h2,h3⟩
   ·exact .inl hm
   ·exact .inr ⟨List.mem_cons_of_mem _ h1,h2,h3⟩
theorem Pf:∀{names:List (Str×NameKind)} {n:Nat} {acc:List (Str×Addr)} {p:Str×Addr},p∈acc->p∈cellsFrom n names acc
 |[],_,_,_,h=>h
 |(m,k)::r,n,acc,p,h=>by
  unfold cellsFrom
  split
  ·exact Pf (List.mem_cons_of_mem _ h)
  ·exact Pf h
theorem Jv:∀{names:List (Str×NameKind)} {n:Nat} {acc:List (Str×Addr)} {x:Str},(x,.cell)∈names->∃c,(x,c)∈cellsFrom n names acc
 |(m,k)::r,n,acc,x,h=>by
  unfold cellsFrom
  rcases List.mem_cons.mp h with e | h
  ·cases e
   exact⟨n,Pf List.mem_cons_self⟩
  ·split
   ·exact Jv h
   ·exact Jv h
theorem Jw:∀{names:List (Str×NameKind)} {h:Heap} {acc:List (Str×Addr)} {x y:Str} {c:Addr},(∀p∈acc,p.2<h.objs.size)->(∀x y c,(x,c)∈acc->(y,c)∈acc->x=y)->
  (x,c)∈cellsFrom h.objs.size names acc->(y,c)∈cellsFrom h.objs.size names acc->x=y
 |[],_,_,_,_,_,_,hi,h1,h2=>hi _ _ _ h1 h2
 |(n,k)::r,h,acc,x,y,c,hl,hi,h1,h2=>by
  unfold cellsFrom at h1 h2
  split at h1
  ·rename_i hk
   rw[if_pos hk]at h2
   rw[<-Heap.size_push h {cls:=.type "cell",data:=.cell none}]at h1 h2
   refine Jw (h:=h.push _) (λp hp=>?_) (λx y c a b=>?_) h1 h2
   ·rw[Heap.size_push]
    rcases List.mem_cons.mp hp with rfl | hp
    ·exact Nat.lt_succ_self _
    ·exact Nat.lt_succ_of_lt (hl p hp)
   ·rcases List.mem_cons.mp a with e | a <;> rcases List.mem_cons.mp b with e' | b
    ·cases e;cases e';rfl
    ·cases e;exact absurd (hl _ b) (Nat.lt_irrefl _)
    ·cases e';exact absurd (hl _ a) (Nat.lt_irrefl _)
    ·exact hi _ _ _ a b
  ·rename_i hk
   rw[if_neg hk]at h2
   exact Jw hl hi h1 h2
theorem Z9t {M:Model}{A:Around}{E:Value->Shared->Prop}{s:Shared}{scope:Scope}{globals:Addr}{closure:List (Str×Addr)}{qual:Str}{func:Option Addr}{code:Value}{around:Env}{builtins:Addr}{Q:Env->Shared->Prop}
  (h:Q (newEnv scope s.heap.objs.size globals (cellsFrom (s.heap.objs.size+1) scope.names closure) qual func code (some around) builtins)
   {s with heap:=pushCells (s.heap.push {cls:=.type "dict",data:=.dict #[]}) scope.names}) :
  wpAny M A (newFunctionEnv scope globals closure [] qual func code (some around) builtins) Q E s:=by
 simp only[newFunctionEnv,Option.isSome_some,if_true]
 refine wpAny_bind (wpAny_alloc ?_)
 refine wpAny_bind (wpAny_layCells _ (λn k c=>rfl) scope.names closure _ _ ?_)
 rw[show({s with heap:=s.heap.push {cls:=.type "dict",data:=.dict #[]}}:Shared).heap.objs.size=s.heap.objs.size+1 from Heap.size_push ..]
 rw[List.forIn_nil]
 exact wpAny_bind (wpAny_pure (wpAny_pure h))
theorem Rr {sc:Scope}:∀{names:List (Str×NameKind)} {x:Str} {k:NameKind},
  (names.map λ(n,k)=>if(k==NameKind.free&&sc.kind==.function&&sc.names.lookup n==some .cell) then(n,NameKind.cell) else(n,k)).lookup x=some k->
  ∃k',names.lookup x=some k'/\(k=k'\/(k'=.free/\k=.cell))
 |[],_,_,h=>by simp at h
 |(n,k₀)::r,x,k,h=>by
  have ih:=@Rr sc r x k
  have h':List.lookup x ((if(k₀==NameKind.free&&sc.kind==.function&&sc.names.lookup n==some .cell)=true then(n,NameKind.cell) else(n,k₀))::(r.map _))=some k:=h
  cases hx:x==n with
  |true =>
   simp only[List.lookup_cons,hx]
   by_cases hc:(k₀==NameKind.free&&sc.kind==.function&&sc.names.lookup n==some .cell)=true
   ·rw[if_pos hc]at h'
    simp only[List.lookup_cons,hx]at h'
    cases h'
    simp only[Bool.and_eq_true,beq_iff_eq]at hc
    exact⟨k₀,rfl,.inr ⟨hc.1.1,rfl⟩⟩
   ·rw[if_neg hc]at h'
    simp only[List.lookup_cons,hx]at h'
    cases h'
    exact⟨_,rfl,.inl rfl⟩
  |false =>
   simp only[List.lookup_cons,hx]
   by_cases hc:(k₀==NameKind.free&&sc.kind==.function&&sc.names.lookup n==some .cell)=true
   ·rw[if_pos hc]at h'
    simp only[List.lookup_cons,hx]at h'
    exact ih h'
   ·rw[if_neg hc]at h'
    simp only[List.lookup_cons,hx]at h'
    exact ih h'
structure BlkOk (N:List Str)(sc scope:Scope)(own:List (Str×Nat)):Prop where
 kind:scope.kind=.function
 uniq:∀y∈scope.names,scope.names.lookup y.1=some y.2
 ix:∀p∈own,N[p.2]?=some p.1
 free:∀y∈scope.names,y.2=.free->sc.names.lookup y.1=some .cell\/sc.names.lookup y.1=some .free
 own:∀y∈scope.names,y.2=.local\/y.2=.cell->y.1∈own.map (·.1)\/y.1∉N
noncomputable def wipe (σ:St):List Nat->St
 |[]=>σ
 |v::vs=>(wipe σ vs).set v none
theorem Rs (σ:St):∀vs:List Nat,(wipe σ vs).length=σ.length
 |[]=>rfl
 |v::vs=>by unfold wipe;rw[List.length_set,Rs σ vs]
theorem Jx {σ:St}{i:Nat}{x:V}:∀{vs:List Nat},(wipe σ vs)[i]?=some (some x)->σ[i]?=some (some x)/\i∉vs
 |[],h=>⟨h,by simp⟩
 |v::vs,h=>by
  unfold wipe at h
  by_cases hi:v=i
  ·subst hi
   by_cases hv:v<(wipe σ vs).length
   ·rw[List.getElem?_set_self hv]at h;cases h
   ·rw[List.getElem?_eq_none (by simpa using hv)]at h;cases h
  ·rw[List.getElem?_set_ne hi]at h
   obtain⟨h1,h2⟩:=Jx h
   exact⟨h1,by simp only[List.mem_cons,not_or];exact⟨λe=>hi e.symm,h2⟩⟩
abbrev Cx.blk (X:Cx)(s:Shared)(H:Hp)(scope:Scope)(cenv:Env)(fp:List Addr):Cx:={X with s_0:=s,H_0:=H,env:=cenv,outer:=X.stack,ex:=fp,fn:=λx=>scope.names.lookup x==some .cell,pn:=[],xe:=λ_ _=>False}
noncomputable section
variable {X:Cx}{pins:List (Addr×Obj)}{σ:St}{H:Hp}{s:Shared}
theorem Z9u {scope:Scope}{own:List (Str×Nat)}{fp:List Addr}(I:Inv X pins σ H s)(ok:BlkOk X.N X.env.scope scope own)(hN:X.N.Nodup)(hfp:∀b∈fp,FpOk X pins H b/\b<s.heap.objs.size) :
  Inv (X.blk s H scope (compEnvC scope (cellsFrom (s.heap.objs.size+1) scope.names (Yo X.env.cells scope.names [])) s.heap.objs.size X.env) fp) [] (wipe σ (own.map (·.2))) H {s with heap:=pushCells (s.heap.push {cls:=.type "dict",data:=.dict #[]}) scope.names}:=by
 have hfree:∀y∈scope.names,y.2=.free->∃c,X.env.cells.lookup y.1=some c:=λy hy e=>by
  rcases ok.free y hy e with k | k
  ·exact I.ok.has _ (.inl k)
  ·exact I.ok.has _ (.inr k)
 generalize hcenv:compEnvC scope (cellsFrom (s.heap.objs.size+1) scope.names (Yo X.env.cells scope.names [])) s.heap.objs.size X.env=cenv
 have kp:∀b o,s.heap.get? b=some o->(pushCells (s.heap.push {cls:=.type "dict",data:=.dict #[]}) scope.names).get? b=some o:=λb o e=>pushCells_keeps _ _ _ _ (Heap.get?_push_of_some _ e)
 have hL:cenv.locals=s.heap.objs.size:=by rw[<-hcenv];rfl
 have hcl:cenv.cells=cellsFrom (s.heap.objs.size+1) scope.names (Yo X.env.cells scope.names []):=by rw[<-hcenv];rfl
 have hsc:cenv.scope=relS scope X.env.scope:=by rw[<-hcenv];rfl
 rw[<-Heap.size_push s.heap {cls:=.type "dict",data:=.dict #[]}]at hcl
 have cm:∀{y c},(y,c)∈Yo X.env.cells scope.names []->X.env.cells.lookup y=some c/\c<s.heap.objs.size:=λ{y c} hm=>by
  rcases Uc hm with hm | ⟨h1,rfl⟩
  ·cases hm
  ·obtain⟨c,hc⟩:=hfree _ h1 rfl
   rw[hc]
   obtain⟨w,z⟩:=I.cell _ _ hc
   exact⟨rfl,z.lt⟩
 have mem:∀{y c},cenv.cells.lookup y=some c->(X.env.cells.lookup y=some c/\c<s.heap.objs.size)\/(s.heap.objs.size+1<=c/\Zie (pushCells (s.heap.push {cls:=.type "dict",data:=.dict #[]}) scope.names) c none):=λ{y c} e=>by
  rw[hcl]at e
  rcases Th (PySem.mem_of_lookup e) with hm | ⟨_,h2,h3⟩
  ·exact .inl (cm hm)
  ·rw[Heap.size_push]at h2;exact .inr ⟨h2,h3⟩
 have look:∀{y},scope.names.lookup y=some .free->∃c,cenv.cells.lookup y=some c/\X.env.cells.lookup y=some c:=λ{y} hl=>by
  have hy:(y,NameKind.free)∈scope.names:=PySem.mem_of_lookup hl
  obtain⟨c',e'⟩:=Om (Pf (names:=scope.names) (n:=(s.heap.push {cls:=.type "dict",data:=.dict #[]}).objs.size) (Rq (cells:=X.env.cells) (acc:=[]) hy))
  rw[<-hcl]at e'
  refine⟨c',e',?_⟩
  rw[hcl]at e'
  rcases Th (PySem.mem_of_lookup e') with hm | ⟨h1,_,_⟩
  ·exact(cm hm).1
  ·have:=ok.uniq _ h1
   rw[hl]at this;cases this
 have okB:(X.blk s H scope cenv fp).Ok:=by
  refine⟨I.ok.mod,by show cenv.scope.kind=_;rw[hsc];exact ok.kind,by show cenv.globals=_;rw[<-hcenv];exact I.ok.glob,by show cenv.builtins=_;rw[<-hcenv];exact I.ok.blt,by show s.heap.objs.size<=cenv.locals;rw[hL];exact Nat.le_refl _,
   λy z c e1 e2=>?_,λy hy=>?_,λy c z e=>?_,I.ok.hd,I.ok.frames,.inl rfl,λb hb=>⟨?_,λy c e z=>?_⟩,I.bs,Nat.le_trans I.ok.bsz I.sz,λb o e hb=>?_,λb hb z=>?_,I.stack,I.stkFree⟩
  ·have e1:cenv.cells.lookup y=some c:=e1
   have e2:cenv.cells.lookup z=some c:=e2
   rw[hcl]at e1 e2
   refine Jw (λp hp=>?_) (λy z c a b=>I.ok.inj y z c (cm a).1 (cm b).1) (PySem.mem_of_lookup e1) (PySem.mem_of_lookup e2)
   rw[Heap.size_push]
   exact Nat.lt_succ_of_lt (cm (y:=p.1) (c:=p.2) hp).2
  ·show ∃c,cenv.cells.lookup y=some c
   have key:∀k,cenv.kindOf y=some k->(k=.cell\/k=.free)->∃c,cenv.cells.lookup y=some c:=λk hk hk'=>by
    unfold Env.kindOf at hk
    rw[hsc]at hk
    obtain⟨k',e,r⟩:=Rr hk
    have:k'=.cell\/k'=.free:=by
     rcases r with rfl | ⟨rfl,_⟩
     ·exact hk'
     ·exact .inr rfl
    rcases this with rfl | rfl
    ·obtain⟨c,hm⟩:=Jv (n:=(s.heap.push {cls:=.type "dict",data:=.dict #[]}).objs.size) (acc:=Yo X.env.cells scope.names []) (PySem.mem_of_lookup e)
     obtain⟨c',e'⟩:=Om hm
     exact⟨c',by rw[hcl];exact e'⟩
    ·obtain⟨c,h1,_⟩:=look e
     exact⟨c,h1⟩
   rcases hy with hy | hy
   ·exact key _ hy (.inl rfl)
   ·exact key _ hy (.inr rfl)
  ·have z:(scope.names.lookup y==some NameKind.cell)=true:=z
   have z:scope.names.lookup y=some .cell:=by simpa using z
   have e:cenv.cells.lookup y=some c:=e
   rw[hcl]at e
   rcases Th (PySem.mem_of_lookup e) with hm | ⟨_,h2,_⟩
   ·rcases Uc hm with hm | ⟨h1,_⟩
    ·cases hm
    ·have q:=ok.uniq _ h1
     rw[z]at q;cases q
   ·rw[Heap.size_push]at h2
    exact Nat.le_of_succ_le h2
  ·show b≠cenv.locals
   rw[hL];exact Nat.ne_of_lt (hfp b hb).2
  ·have e:cenv.cells.lookup y=some c:=e
   rcases mem e with⟨h1,_⟩ | ⟨h1,_⟩
   ·exact(hfp b hb).1.2.2.2.2.1 y c h1 z
   ·have h2:s.heap.objs.size+1<=b:=by rw[<-z];exact h1
    exact absurd (Nat.lt_of_lt_of_le (hfp b hb).2 (Nat.le_of_succ_le h2)) (Nat.lt_irrefl _)
  ·rcases(hfp b hb).1.2.2.2.1 with z | z
   ·exact I.ok.noex b o e z
   ·exact absurd (Nat.lt_of_lt_of_le (Heap.lt_size e) (Nat.le_trans I.ok.bsz z)) (Nat.lt_irrefl _)
  ·rcases List.mem_cons.mp (I.stkSub b z) with z | z
   ·exact(hfp b hb).1.2.1 z
   ·exact(hfp b hb).1.2.2.1 z
 refine⟨okB,rfl,I.bare,Un.kept kp,⟨λ_=>none,?_,λi y av e1 e2 e3=>?_⟩,λy c e=>?_,?_,λy c e=>?_,λp hp=>?_,I.hok.kept kp,by rw[Rs];exact I.len⟩
 ·show Heap.Ns _ cenv.locals _
  rw[hL]
  exact Heap.Ns.keeps (Heap.Ns.new ..) λb o e=>pushCells_keeps _ _ _ _ e
 ·obtain⟨e2,hne⟩:=Jx e2
  have hfr:scope.names.lookup y=some .free/\(cenv.kindOf y=some .cell\/cenv.kindOf y=some .free):=by
   have key:∀k,cenv.scope.names.lookup y=some k->k=.local\/k=.cell\/k=.free->scope.names.lookup y=some .free/\(cenv.kindOf y=some .cell\/cenv.kindOf y=some .free):=λk hk hk'=>by
    have hk0:=hk
    rw[hsc]at hk
    obtain⟨k',e,r⟩:=Rr hk
    have no:¬(k'=.local\/k'=.cell):=λhh=>by
     rcases ok.own _ (PySem.mem_of_lookup e) hh with e' | e'
     ·obtain⟨p,hp,hpy⟩:=List.mem_map.mp e'
      have e3:=ok.ix p hp
      have:p.1=y:=hpy
      rw[this]at e3
      exact hne (List.mem_map.mpr ⟨p,hp,Z3r hN e3 e1⟩)
     ·exact e' (List.mem_of_getElem? e1)
    rcases r with rfl | ⟨rfl,rfl⟩
    ·rcases hk' with rfl | rfl | rfl
     ·exact absurd (.inl rfl) no
     ·exact absurd (.inr rfl) no
     ·exact⟨e,.inr hk0⟩
    ·exact⟨e,.inl hk0⟩
   have e3:Vis cenv.scope y:=e3
   rcases e3 with e3 | e3 | e3
   ·exact key _ e3 (.inl rfl)
   ·exact key _ e3 (.inr (.inl rfl))
   ·exact key _ e3 (.inr (.inr rfl))
  obtain⟨m,hn,hl⟩:=I.loc
  have hvis:Vis X.env.scope y:=(ok.free _ (PySem.mem_of_lookup hfr.1) rfl).elim (λk=>.inr (.inl k)) (λk=>.inr (.inr k))
  obtain⟨w,r,q⟩:=hl i y av e1 e2 hvis
  refine⟨w,r,.inr ⟨hfr.2,?_⟩⟩
  obtain⟨c,h1,h2⟩:=look hfr.1
  rcases q with⟨k,_⟩ | ⟨_,c',e',z⟩
  ·have k:X.env.scope.names.lookup y=some .local:=k
   rcases ok.free _ (PySem.mem_of_lookup hfr.1) rfl with k' | k' <;> rw[show X.env.scope.names.lookup y=_ from k']at k <;> cases k
  ·rw[h2]at e';cases e'
   exact⟨c,h1,z.keeps kp⟩
 ·have e:cenv.cells.lookup y=some c:=e
  rcases mem e with⟨h1,_⟩ | ⟨_,z⟩
  ·obtain⟨w,z⟩:=I.cell y c h1
   exact⟨w,z.keeps kp⟩
  ·exact⟨_,z⟩
 ·show H cenv.locals=none
  rw[hL];exact I.hok.fresh (Nat.le_refl _)
 ·have e:cenv.cells.lookup y=some c:=e
  rcases mem e with⟨h1,_⟩ | ⟨h1,_⟩
  ·exact I.freeC y c h1
  ·exact I.hok.fresh (Nat.le_of_succ_le h1)
 ·exact absurd (show p∈([]:List (Addr×Obj))++[] from hp) (by simp)
theorem Zkn {E:Value->Shared->Prop}{D:Addr}{xs:List V}{y:V}{v:Value}{Q:Value->Shared->Prop}(I:Inv X pins σ H s)(hD:H D=some (.lst xs))(hz:xs.length<sizeLine)(r:RelV y v)
  (h:∀s',Inv X pins σ (upd H D (.lst (xs++[y]))) s'->Q .none s'):wpAny (model X.prog X.w) X.A (call (.builtin "list.append") [.ref D,v]) Q E s:=by
 obtain⟨hz',its,n,ri,e⟩:=I.hok D _ hD
 have hl:=ri.length
 refine append_at (hsz:=by rw[List.size_toArray];omega) e λh' sb ho'=>?_
 refine h {s with heap:=h'} (I.write (t':=s.toks) (by rw[hD];trivial) (.inl rfl) (λb u hb q=>(sb.2 b hb).trans q) ⟨_,ho'⟩ ⟨by rw[List.length_append];exact hz,its++[v],n+1,ri.append (.cons r .nil),?_⟩)
 rw[ho']
 simp
noncomputable def PTs (X:Cx)(ifs:List Expr)(t:TT):Prop :=
 ∀(pins:List (Addr×Obj)) (s:Shared) (σ:St) (H:Hp) (Q:Bool->Hp->Prop),Inv X pins σ H s->t σ H Q->
  wpAny (model X.prog X.w) X.A (forIn ifs true λc r=>if r=true then do let ok<-isTrue c X.env (eval c X.env);pure (ForInStep.yield ok) else pure (ForInStep.yield r)) (TP X pins σ Q) X.xe s
noncomputable def tYes:TT:=λ_ H Q=>Q true H
theorem Yv:PTs X [] tYes:=λ_ _ _ H _ I h=>wpAny_tests_nil ⟨H,I,h⟩
theorem Jy {c:Expr}{t:TT}(h:PT X c t):PTs X [c] t:=λpins s σ H Q I hw=>wpAny_tests_one (h pins s σ H Q I hw)
end
theorem thnF {α:Type}{t:Sem α}{Q Q':α->Shared->Prop}{M:Model}{A:Around}{E:Value->Shared->Prop}{s:Shared}(h:wpAny M A t Q (λ_ _=>False) s)(hQ:∀a s,Q a s->Q' a s):wpAny M A t Q' E s:=wpAny_mono h hQ λ_ _ z=>False.elim z
theorem Z6u {prog:Program}{w:World}{A:Around}{R:Result->Shared->Prop}{s:Shared}{elt target iter:Expr}{ifs:List Expr}{scope:Scope}{pos:Pos}{it acc:Value}{env:Env}(I:Nat->Shared->Prop)
  (turn:∀n s,I n s->wpAny (model prog w) A (pyNext it) (λr s₁=>match r with
   |none=>R (.ok .next) s₁
   |some v=>wpAny (model prog w) A (letOwnedTupleGo target it v) (λ_ s₁'=>wpAny (model prog w) A (assign target env v) (λ_ s₂ =>
     wpAny (model prog w) A (forIn ifs true λc r=>if r=true then do let ok<-isTrue c env (eval c env);pure (ForInStep.yield ok) else pure (ForInStep.yield r)) (λok s₃ =>
      if ok=true then wpAny (model prog w) A (eval elt env) (λx s₄ =>
       wpAny (model prog w) A (call (.builtin "list.append") [acc,x]) (λ_ s₅=>∃m,m<n/\I m s₅) (notedBy (model prog w) A env λe s'=>R (.error e) s') s₄) (notedBy (model prog w) A env λe s'=>R (.error e) s') s₃
      else ∃m,m<n/\I m s₃) (notedBy (model prog w) A env λe s'=>R (.error e) s') s₂) (notedBy (model prog w) A env λe s'=>R (.error e) s') s₁') (notedBy (model prog w) A env λe s'=>R (.error e) s') s₁) (notedBy (model prog w) A env λe s'=>R (.error e) s') s)
  (n:Nat) (h:I n s) :
  codeAny (model prog w) A (.compLoop (.ListComp elt [⟨target,iter,ifs,0⟩] scope pos) 0 it acc env) R s:=by
 refine codeAny_loop rfl I (λn s hI=>?_) n h
 show wpAny _ A ((compTurn (.ListComp elt [⟨target,iter,ifs,0⟩] scope pos) 0 it acc env).onRaise (λx=>do noteFrame x env;theTreesLotGoes x)) _ _ s
 refine wpAny_noted ?_
 rw[compTurn_list]
 refine wpAny_bind (wpAny_standAt (wpAny_bind (wpAny_mono (turn n s hI) (λr s₁ h₁=>?_) λ_ _ h'=>h')))
 cases r with
 |none=>exact wpAny_pure h₁
 |some v =>
  refine wpAny_bind (wpAny_mono h₁ (λ_ s₁' h₁'=>?_) λ_ _ h'=>h')
  refine wpAny_bind (wpAny_mono h₁' (λ_ s₂ h₂=>wpAny_bind (wpAny_mono h₂ (λok s₃ h₃=>?_) λ_ _ h'=>h')) λ_ _ h'=>h')
  cases ok with
  |false=>exact wpAny_pure ⟨rfl,h₃⟩
  |true =>
   exact wpAny_bind (wpAny_bind (wpAny_mono h₃ (λx s₄ h₄=>wpAny_bind (wpAny_mono h₄ (λ_ s₅ h₅=>wpAny_pure (wpAny_pure ⟨rfl,h₅⟩)) λ_ _ h'=>h')) λ_ _ h'=>h'))
noncomputable section
variable {X:Cx}
noncomputable def tLc (wi:TI)(g:TG)(tt:TT)(te:TE)(vs:List Nat):TE:=λσ H Q=>wi σ H λJ H1=>∀D,H1 D=none->∃W:Nat->Nat->Hp->Prop,(∃m,W 0 m (upd H1 D (.lst [])))/\∀i m H,W i m H->
 (J.stop i H/\Q (.ref D) H)\/(J.go i H/\∃Nx:Hp->Prop,(∀H',Nx H'->∃m',m'<m/\W (i+1) m' H')/\∀x H',J.yld i H x H'->g x (wipe σ vs) H' λσ2 H2=>wipe σ2 vs=wipe σ vs/\tt σ2 H2 λb H3 =>
  if b=true then te σ2 H3 λy H4=>∃acc,H4 D=some (.lst acc)/\acc.length<sizeLine/\Nx (upd H4 D (.lst (acc++[y]))) else Nx H3)
theorem Zej {pins:List (Addr×Obj)}{s:Shared}{σ:St}{H:Hp}{Q:VK}{elt tg iter:Expr}{ifs:List Expr}{scope:Scope}{own:List (Str×Nat)}{pos pos':Pos}{wi:TI}{g:TG}{tt:TT}{te:TE}{use:Option (Value->Sem Unit)}{Qf:Value->Shared->Prop}
  (hc:X.calm=true) (hN:X.N.Nodup) (I:Inv X pins σ H s) (hi:PI X tg iter wi) (ok:BlkOk X.N X.env.scope scope own)
  (hg:∀(s:Shared) (H:Hp) (C:Addr) (cl:List (Str×Addr)) (fp:List Addr),PG (X.blk s H scope (compEnvC scope cl C X.env) fp) tg g) (ht:∀(s:Shared) (H:Hp) (C:Addr) (cl:List (Str×Addr)) (fp:List Addr),PTs (X.blk s H scope (compEnvC scope cl C X.env) fp) ifs tt)
  (he:∀(s:Shared) (H:Hp) (C:Addr) (cl:List (Str×Addr)) (fp:List Addr),PE (X.blk s H scope (compEnvC scope cl C X.env) fp) elt te) (hs:∀x,foldedSetIterable iter X.env x=pure x)
  (h:tLc wi g tt te (own.map (·.2)) σ H Q)
  (hRR:∀D C s' m H',Inv X pins σ H' s'->Q (.ref D) H'->s'.heap.Ns C m->FpOk X pins H' C->compPost (model X.prog X.w) X.A X.xe use Qf (.ref D) C (.ok .next) s') :
  wpAny (model X.prog X.w) X.A (comprehension (.ListComp elt [⟨tg,iter,ifs,0⟩] scope pos) scope X.env pos' (newList []) false (eval iter X.env) use) Qf X.xe s:=by
 have hfree:∀y∈scope.names,y.2=.free->∃c,X.env.cells.lookup y.1=some c:=λy hy e=>by
  rcases ok.free y hy e with k | k
  ·exact I.ok.has _ (.inl k)
  ·exact I.ok.has _ (.inr k)
 refine wpAny_comprehension_free (use:=use) rfl hs (Zcl hfree) ok.kind (λy hy e=>by rw[ok.uniq y hy,e])
  (thn (hi pins s σ H _ I h) λxv s1 hx=>thn hx λitv s2 h2=>?_)
 obtain⟨it,fp,tn,J,H2,e,I2,T,st2,f2,q⟩:=h2
 subst e
 refine wpAny_newObj_type (Z9t ?_) (by show 0<=sizeLine;decide)
 generalize hD:s2.heap.objs.size=D
 have hDn:H2 D=none:=I2.hok.fresh (Nat.le_of_eq hD)
 obtain⟨W,⟨m0,w0⟩,turn⟩:=q D hDn
 generalize hs3:({s2 with heap:=s2.heap.push {cls:=.type "list",data:=.seq ([]:List Value).toArray}}:Shared)=s3
 have I3:Inv X pins σ (upd H2 D (.lst [])) s3:=by
  rw[<-hs3]
  refine I2.laid (t':=s2.toks) (λb o e=>Heap.get?_push_of_some _ e) (Nat.le_of_eq hD) ⟨Nat.zero_le _,[],0,.nil,?_⟩
  rw[<-hD]
  exact Heap.get?_push_size _ rfl
 have h3:s3.heap=s2.heap.push {cls:=.type "list",data:=.seq ([]:List Value).toArray}:=by rw[<-hs3]
 have sz:∀b∈fp,b<s2.heap.objs.size:=λb hb=>by
  obtain⟨o,e,_⟩:=T.obj _ _ st2 b hb
  exact Heap.lt_size e
 have f3:∀b∈fp,FpOk X pins (upd H2 D (.lst [])) b/\b<s3.heap.objs.size:=λb hb=>by
  have hlt:=sz b hb
  refine⟨⟨?_,(f2 b hb).2⟩,by rw[h3,Heap.size_push];exact Nat.lt_succ_of_lt hlt⟩
  rw[Zk (by rw[<-hD];exact Nat.ne_of_lt hlt)]
  exact(f2 b hb).1
 have st3:tn 0 s3.heap:=T.keep _ _ _ st2 λb _ o e=>by rw[h3];exact Heap.get?_push_of_some _ e
 have I4:=Z9u I3 ok hN f3
 have pg:=hg s3 (upd H2 D (.lst [])) s3.heap.objs.size (cellsFrom (s3.heap.objs.size+1) scope.names (Yo X.env.cells scope.names [])) fp
 have pt:=ht s3 (upd H2 D (.lst [])) s3.heap.objs.size (cellsFrom (s3.heap.objs.size+1) scope.names (Yo X.env.cells scope.names [])) fp
 have pe:=he s3 (upd H2 D (.lst [])) s3.heap.objs.size (cellsFrom (s3.heap.objs.size+1) scope.names (Yo X.env.cells scope.names [])) fp
 show codeAny _ _ (.compStart (.ListComp elt [⟨tg,iter,ifs,0⟩] scope pos) 0 (.ref it) (.ref D) (compEnvC scope (cellsFrom (s3.heap.objs.size+1) scope.names (Yo X.env.cells scope.names [])) s3.heap.objs.size X.env)) (compPost (model X.prog X.w) X.A X.xe use Qf (.ref D) s3.heap.objs.size) {s3 with heap:=pushCells (s3.heap.push {cls:=.type "dict",data:=.dict #[]}) scope.names}
 have nfp:∀b∈fp,(upd H2 D (.lst [])) b=none:=λb hb=>(f3 b hb).1.1
 generalize hce:compEnvC scope (cellsFrom (s3.heap.objs.size+1) scope.names (Yo X.env.cells scope.names [])) s3.heap.objs.size X.env=ce at I4 pg pt pe ⊢
 have cL:ce.locals=s3.heap.objs.size:=by subst hce;rfl
 generalize hH3:upd H2 D (.lst [])=H3 at I3 I4 pg pt pe w0 nfp f3
 generalize hs4:({s3 with heap:=pushCells (s3.heap.push {cls:=.type "dict",data:=.dict #[]}) scope.names}:Shared)=s4 at I4 ⊢
 have st4:tn 0 s4.heap:=T.keep _ _ _ st3 λb _ o e=>by rw[<-hs4];exact pushCells_keeps _ _ _ _ (Heap.get?_push_of_some _ e)
 have stat:∀{σ':St} {H':Hp} {s':Shared},Inv (X.blk s3 H3 scope ce fp) [] σ' H' s'->(∀b∈fp,H' b=none)->∀b∈fp,FpOk (X.blk s3 H3 scope ce fp) [] H' b:=λ{σ' H' s'} I' hn b hb =>
  ⟨hn b hb,(I'.ok.exf b hb).1,I'.ok.exfs b hb,.inl hb,λx c e=>(I'.ok.exf b hb).2 x c e,λp hp=>absurd (show p∈([]:List (Addr×Obj))++[] from hp) (by simp)⟩
 have loop:codeAny (model X.prog X.w) X.A (.compLoop (.ListComp elt [⟨tg,iter,ifs,0⟩] scope pos) 0 (.ref it) (.ref D) ce) (compPost (model X.prog X.w) X.A X.xe use Qf (.ref D) s3.heap.objs.size) s4:=by
  refine Z6u (λn s'=>∃i H',Inv (X.blk s3 H3 scope ce fp) [] (wipe σ (own.map (·.2))) H' s'/\tn i s'.heap/\(∀b∈fp,H' b=none)/\W i n H') ?_ m0 ⟨0,H3,I4,st4,nfp,w0⟩
  rintro n s5 ⟨i,H5,I5,st5,n5,w5⟩
  rcases turn i n H5 w5 with⟨stop,qq⟩ | ⟨go,Nx,hNx,step⟩
  ·have td:=T.done (X.blk s3 H3 scope ce fp) rfl rfl rfl hc i [] s5 _ H5 (λ_ _=>False) I5 (stat I5 n5) st5 stop
   refine thnF td λr s6 ⟨hr,I6⟩=>?_
   subst hr
   have I7:Inv X pins σ H5 s6:=I3.call' (ch:=fp) I6.os I6.base I6.hok I6.bare λb hb=>⟨(f3 b hb).1.2.2.2.1,(f3 b hb).1.2.1,(f3 b hb).1.2.2.2.2.1,(f3 b hb).1.2.2.2.2.2⟩
   have nC:H5 s3.heap.objs.size=none:=by
    have z:H5 ce.locals=none:=I6.free
    rw[cL]at z
    exact z
   obtain⟨m,hn,_⟩:=I6.loc
   have hn:s6.heap.Ns ce.locals m:=hn
   rw[cL]at hn
   exact hRR D s3.heap.objs.size s6 m H5 I7 qq hn (I3.fpOk (Nat.le_refl _) nC)
  ·have ti:=T.item (X.blk s3 H3 scope ce fp) rfl rfl rfl hc i [] s5 _ H5 (λ_ _=>False) I5 (stat I5 n5) st5 go
   refine thnF ti λr s6 ⟨u,hr,h6⟩=>?_
   subst hr
   refine thnF h6 λ_ s7 ⟨x,H7,I7,r7,y7,st7,n7⟩=>?_
   have I7':=I7.pinned (stat I7 n7) (T.obj _ _ st7)
   refine thnF (pg _ s7 _ H7 x u _ I7' r7 (step x H7 y7)) λ_ s8 ⟨σ8,H8,I8,hw8,q8⟩=>?_
   refine thnF (pt _ s8 σ8 H8 _ I8 q8) λb s9 ⟨H9,I9,q9⟩=>?_
   have fin:∀{s':Shared} {H':Hp},Inv (X.blk s3 H3 scope ce fp) ([]++Z6h fp s7.heap) σ8 H' s'->Nx H'->∃m,m<n/\∃i H',Inv (X.blk s3 H3 scope ce fp) [] (wipe σ (own.map (·.2))) H' s'/\tn i s'.heap/\(∀b∈fp,H' b=none)/\W i m H':=λ{s' H'} I' nx=>by
    obtain⟨m',hm,w'⟩:=hNx H' nx
    have pin':∀b∈fp,∀o,s7.heap.get? b=some o->s'.heap.get? b=some o/\H' b=none:=λb hb o e =>
     let z:=I'.pin (b,o) (List.mem_append_right _ (List.mem_append_right _ (Oj hb e)))
     ⟨z.1,z.2.1⟩
    have hl:(wipe σ (own.map (·.2))).length=σ8.length:=by rw[<-hw8,Rs]
    refine⟨m',hm,i+1,H',(I'.unpinned (pins:=[])).weak hl (λj v e=>?_),T.keep _ _ _ st7 λb hb o e=>(pin' b hb o e).1,λb hb=>?_,w'⟩
    ·rw[<-hw8]at e
     exact(Jx e).1
    ·obtain⟨o,e,_⟩:=T.obj _ _ st7 b hb
     exact(pin' b hb o e).2
   cases b with
   |false =>
    simp only[Bool.false_eq_true,if_false]at q9 ⊢
    exact fin I9 q9
   |true =>
    simp only[if_true]at q9 ⊢
    refine thnF (pe _ s9 σ8 H9 _ I9 q9) λz s10 ⟨yv,H10,I10,r10,acc,hD10,hz10,nx⟩=>?_
    exact Zkn (X:=X.blk s3 H3 scope ce fp) I10 hD10 hz10 r10 λs11 I11=>fin I11 nx
 exact codeAny_compStart_list loop (T.self X.A 0 _ _ _ st4 loop)
theorem Ti {elt tg iter:Expr}{ifs:List Expr}{scope:Scope}{own:List (Str×Nat)}{pos:Pos}{wi:TI}{g:TG}{tt:TT}{te:TE}(hc:X.calm=true)(hN:X.N.Nodup)(hi:PI X tg iter wi)(ok:BlkOk X.N X.env.scope scope own)
  (hg:∀(s:Shared) (H:Hp) (C:Addr) (cl:List (Str×Addr)) (fp:List Addr),PG (X.blk s H scope (compEnvC scope cl C X.env) fp) tg g) (ht:∀(s:Shared) (H:Hp) (C:Addr) (cl:List (Str×Addr)) (fp:List Addr),PTs (X.blk s H scope (compEnvC scope cl C X.env) fp) ifs tt)
  (he:∀(s:Shared) (H:Hp) (C:Addr) (cl:List (Str×Addr)) (fp:List Addr),PE (X.blk s H scope (compEnvC scope cl C X.env) fp) elt te) (hs:∀x,foldedSetIterable iter X.env x=pure x:=by intro _;rfl) :
  PE X (.ListComp elt [⟨tg,iter,ifs,0⟩] scope pos) (tLc wi g tt te (own.map (·.2))):=by
 intro pins s σ H Q I h
 rw[eval_ListComp]
 refine Zej hc hN I hi ok hg ht he hs h λD C s' m H' I' q hn f=>⟨m,hn,λh'' sb=>?_⟩
 obtain⟨f0,f1,f2,f3,f4,f5⟩:=f
 exact⟨.ref D,H',I'.turned (t':=s'.toks) (λb o hb e=>(sb.2 b hb).trans e) f0 f1 f3 f4 f5,rfl,q⟩
theorem Ud {i:Nat}{y:Str}{py:Pos}{elt tg iter:Expr}{ifs:List Expr}{scope:Scope}{own:List (Str×Nat)}{pos spos:Pos}{wi:TI}{g:TG}{tt:TT}{te:TE}(hc:X.calm=true)(hN:X.N.Nodup)(hy:X.N[i]?=some y)(hyl:X.env.scope.names.lookup y=some .local)
  (hsw:swapsWith (.ListComp elt [⟨tg,iter,ifs,0⟩] scope pos) (some (.Name y py)) spos.line X.env=pure true) (hi:PI X tg iter wi) (ok:BlkOk X.N X.env.scope scope own)
  (hg:∀(s:Shared) (H:Hp) (C:Addr) (cl:List (Str×Addr)) (fp:List Addr),PG (X.blk s H scope (compEnvC scope cl C X.env) fp) tg g) (ht:∀(s:Shared) (H:Hp) (C:Addr) (cl:List (Str×Addr)) (fp:List Addr),PTs (X.blk s H scope (compEnvC scope cl C X.env) fp) ifs tt)
  (he:∀(s:Shared) (H:Hp) (C:Addr) (cl:List (Str×Addr)) (fp:List Addr),PE (X.blk s H scope (compEnvC scope cl C X.env) fp) elt te) (hs:∀x,foldedSetIterable iter X.env x=pure x:=by intro _;rfl) :
  PS X (.Assign [.Name y py] (.ListComp elt [⟨tg,iter,ifs,0⟩] scope pos) spos) (tAsg (tLc wi g tt te (own.map (·.2))) (Z3t i)):=by
 intro pins s σ H D I h
 rw[exec_Assign_Name_used _ _ _ _ hsw]
 refine wpAny_bind (wpAny_standAt (wpAny_bind ?_))
 show wpAny _ X.A (do let _<-comprehension (.ListComp elt [⟨tg,iter,ifs,0⟩] scope pos) scope X.env (firstIterPos [⟨tg,iter,ifs,0⟩] pos) (newList []) false (eval iter X.env) (some (assign (.Name y py) X.env))) _ _ s
 have h:tLc wi g tt te (own.map (·.2)) σ H (λx H1=>Z3t i x σ H1 D.nx):=h
 refine wpAny_bind (thn (Zej (Qf:=λ_ s'=>SP X pins D .next s') hc hN I hi ok hg ht he hs h λL C s' m H' I' q hn f=>?_) λ_ s' hq=>wpAny_pure (wpAny_pure hq))
 show wpAny _ _ (assign (.Name y py) X.env (.ref L)) _ _ _
 refine wpAny_assign_Name (Z6g (v:=V.ref L) I' hN hy (.inl hyl) rfl (λs2 I2 ⟨a,sb,ha⟩=>?_) (.inr hyl))
 obtain⟨f0,f1,f2,f3,f4,f5⟩:=f
 have haC:C≠a:=by
  rcases ha with z | z
  ·rw[z];exact f1
  ·exact λe=>f4 y a z e.symm
 refine⟨m,hn.sameBut sb haC,λh3 sb3=>?_⟩
 exact⟨_,H',I2.turned (t':=s2.toks) (λb o hb e=>(sb3.2 b hb).trans e) f0 f1 f3 f4 f5,q⟩
end
theorem Rt {K:PySem.W.Frag}{a:Addr}{xs:List V}{g:TG}{tt:TT}{te:TE}{vs:List Nat}{σ:St}{H1:Hp}{D:Addr}{Qd:Hp->Prop}(Pv:Nat->Hp->Prop)(h0:Pv 0 (upd H1 D (.lst [])))(hl:∀i H,i<=xs.length->Pv i H->SqL K H a xs)
  (hs:∀i x H,xs[i]?=some x->Pv i H->g x (wipe σ vs) H λσ2 H2=>wipe σ2 vs=wipe σ vs/\tt σ2 H2 λb H3 =>
   if b=true then te σ2 H3 λy H4=>∃acc,H4 D=some (.lst acc)/\acc.length<sizeLine/\Pv (i+1) (upd H4 D (.lst (acc++[y]))) else Pv (i+1) H3) (hd:∀H,Pv xs.length H->Qd H) :
  ∃W:Nat->Nat->Hp->Prop,(∃m,W 0 m (upd H1 D (.lst [])))/\∀i m H,W i m H->
   ((Itl K a).stop i H/\Qd H)\/((Itl K a).go i H/\∃Nx:Hp->Prop,(∀H',Nx H'->∃m',m'<m/\W (i+1) m' H')/\∀x H',(Itl K a).yld i H x H'->g x (wipe σ vs) H' λσ2 H2=>wipe σ2 vs=wipe σ vs/\tt σ2 H2 λb H3 =>
    if b=true then te σ2 H3 λy H4=>∃acc,H4 D=some (.lst acc)/\acc.length<sizeLine/\Nx (upd H4 D (.lst (acc++[y]))) else Nx H3):=by
 refine⟨λi m H=>m=xs.length-i/\i<=xs.length/\Pv i H,⟨xs.length,by simp,Nat.zero_le _,h0⟩,?_⟩
 rintro i m H ⟨rfl,hi,p⟩
 have q:=hl i H hi p
 by_cases hlt:i<xs.length
 ·refine .inr ⟨⟨xs,xs[i],q,by simp[hlt]⟩,Pv (i+1),λH' p'=>⟨xs.length-(i+1),by omega,rfl,hlt,p'⟩,λx H' y=>?_⟩
  obtain⟨e,y⟩:=y
  subst e
  exact hs i x _ (y xs q) p
 ·have e:i=xs.length:=by omega
  subst e
  exact .inl ⟨⟨xs,q,Nat.le_refl _⟩,hd H p⟩
theorem Zko {K:PySem.W.Frag}{a:Addr}{xs:List V}{g:TG}{tt:TT}{te:TE}{vs:List Nat}{σ:St}{H1:Hp}{D:Addr}{Qd:Hp->Prop}(Pv:Nat->Hp->Prop)(h0:Pv 0 (upd H1 D (.lst [])))(hl:∀i H,i<=xs.length->Pv i H->SqT K H a xs)
  (hs:∀i x H,xs[i]?=some x->Pv i H->g x (wipe σ vs) H λσ2 H2=>wipe σ2 vs=wipe σ vs/\tt σ2 H2 λb H3 =>
   if b=true then te σ2 H3 λy H4=>∃acc,H4 D=some (.lst acc)/\acc.length<sizeLine/\Pv (i+1) (upd H4 D (.lst (acc++[y]))) else Pv (i+1) H3) (hd:∀H,Pv xs.length H->Qd H) :
  ∃W:Nat->Nat->Hp->Prop,(∃m,W 0 m (upd H1 D (.lst [])))/\∀i m H,W i m H->
   ((Itt K a).stop i H/\Qd H)\/((Itt K a).go i H/\∃Nx:Hp->Prop,(∀H',Nx H'->∃m',m'<m/\W (i+1) m' H')/\∀x H',(Itt K a).yld i H x H'->g x (wipe σ vs) H' λσ2 H2=>wipe σ2 vs=wipe σ vs/\tt σ2 H2 λb H3 =>
    if b=true then te σ2 H3 λy H4=>∃acc,H4 D=some (.lst acc)/\acc.length<sizeLine/\Nx (upd H4 D (.lst (acc++[y]))) else Nx H3):=by
 refine⟨λi m H=>m=xs.length-i/\i<=xs.length/\Pv i H,⟨xs.length,by simp,Nat.zero_le _,h0⟩,?_⟩
 rintro i m H ⟨rfl,hi,p⟩
 have q:=hl i H hi p
 by_cases hlt:i<xs.length
 ·refine .inr ⟨⟨xs,xs[i],q,by simp[hlt]⟩,Pv (i+1),λH' p'=>⟨xs.length-(i+1),by omega,rfl,hlt,p'⟩,λx H' y=>?_⟩
  obtain⟨e,y⟩:=y
  subst e
  exact hs i x _ (y xs q) p
 ·have e:i=xs.length:=by omega
  subst e
  exact .inl ⟨⟨xs,q,Nat.le_refl _⟩,hd H p⟩
noncomputable def blkC (N:List Str)(sc scope:Scope)(own:List (Str×Nat)):Bool :=
 (match scope.kind with | .function=>true | _=>false)&&(scope.names.all λy=>decide (scope.names.lookup y.1=some y.2))&&(own.all λp=>decide (N[p.2]?=some p.1)) &&
  (scope.names.all λy=>match y.2 with
   |.free=>(match sc.names.lookup y.1 with | some .cell=>true | some .free=>true | _=>false)
   |.local=>decide (y.1∈own.map (·.1))||decide (y.1∉N)
   |.cell=>decide (y.1∈own.map (·.1))||decide (y.1∉N)
   |_=>true)
theorem Yd {N:List Str}{sc scope:Scope}{own:List (Str×Nat)}(h:blkC N sc scope own=true):BlkOk N sc scope own:=by
 unfold blkC at h
 simp only[Bool.and_eq_true,List.all_eq_true,decide_eq_true_eq]at h
 obtain⟨⟨⟨h1,h2⟩,h3⟩,h4⟩:=h
 refine⟨?_,h2,h3,λy hy e=>?_,λy hy e=>?_⟩
 ·split at h1
  ·assumption
  ·cases h1
 ·have q:=h4 y hy
  simp only[e]at q
  split at q <;> first | exact .inl (by assumption) | exact .inr (by assumption) | cases q
 ·have q:=h4 y hy
  rcases e with e | e <;> (simp only[e,Bool.or_eq_true,decide_eq_true_eq]at q;exact q)
end L2
namespace L2
open PySem PySem.Spec PyProof.Rows
noncomputable section
variable {prog:Program}{w:World}{A:Around}{R:Result->Shared->Prop}{s:Shared}{elt t0 i0 t1 i1:Expr}{ifs0 ifs1:List Expr}{scope:Scope}{pos:Pos}{it acc:Value}{env:Env}
end
noncomputable section
variable {X:Cx}
end
end L2
namespace L2
open PySem PySem.Spec PyProof.Rows
noncomputable section
variable {κ:Type}[DecidableEq κ]
noncomputable def valV (kvs:List (κ×V))(k:κ):Option V:=(kvs.find? λkv=>decide (kv.1=k)).map (·.2)
noncomputable def putK (kvs:List (κ×V))(k:κ)(v:V):List (κ×V) :=
 if(kvs.any λkv=>decide (kv.1=k))=true then kvs.map (λkv=>if kv.1=k then(kv.1,v) else kv) else kvs++[(k,v)]
theorem Wp {p:κ×V}{r:List (κ×V)}{k:κ}(e:p.1=k):valV (p::r) k=some p.2:=by simp[valV,List.find?_cons,e]
theorem Wq {p:κ×V}{r:List (κ×V)}{k:κ}(e:¬p.1=k):valV (p::r) k=valV r k:=by simp[valV,List.find?_cons,e]
theorem Ue (k:κ):∀kvs:List (κ×V),(kvs.any λkv=>decide (kv.1=k))=(valV kvs k).isSome
 |[]=>rfl
 |p::r=>by
  rw[List.any_cons]
  by_cases e:p.1=k
  ·simp only[Wp e,decide_eq_true e,Bool.true_or,Option.isSome_some]
  ·rw[Wq e,decide_eq_false e,Bool.false_or];exact Ue k r
theorem Z6v (k j:κ)(y:V):∀kvs:List (κ×V),valV kvs k=none->valV (kvs++[(k,y)]) j=if j=k then some y else valV kvs j
 |[],_=>by
  by_cases e:k=j
  ·rw[if_pos e.symm];exact Wp (p:=(k,y)) e
  ·rw[if_neg (λz=>e z.symm)];exact Wq (p:=(k,y)) e
 |p::r,hn=>by
  rw[List.cons_append]
  have hk:¬p.1=k:=λz=>by rw[Wp z]at hn;cases hn
  rw[Wq hk]at hn
  have ih:=Z6v k j y r hn
  by_cases e:p.1=j
  ·rw[Wp e,Wp e,if_neg (λz=>hk (e.trans z))]
  ·rw[Wq e,Wq e,ih]
theorem Jz (kvs:List (κ×V))(k:κ)(v:V):(putK kvs k v).length<=kvs.length+1:=by
 unfold putK
 split
 ·rw[List.length_map];omega
 ·rw[List.length_append,List.length_cons,List.length_nil];omega
theorem Zb6 {kvs:List (κ×V)}{k:κ}(v:V)(h:valV kvs k=none):putK kvs k v=kvs++[(k,v)]:=by
 unfold putK
 rw[Ue,h]
 exact if_neg (by decide)
theorem RelO.isSome_eq {o:Option V}{u:Option Value}(r:RelO o u):o.isSome=u.isSome:=by
 cases o with
 |none=>cases u with
  |none=>rfl
  |some _=>exact(show False from r).elim
 |some _=>cases u with
  |none=>exact(show False from r).elim
  |some _=>rfl
theorem RelO.getD {o:Option V}{u:Option Value}{d:V}{d':Value}(r:RelO o u)(rd:RelV d d'):RelV (o.getD d) (u.getD d'):=by
 cases o with
 |none=>cases u with
  |none=>exact rd
  |some _=>exact(show False from r).elim
 |some _=>cases u with
  |none=>exact(show False from r).elim
  |some _=>exact r
theorem KV.val {kvs:List (κ×V)}{vs:List (κ×Value)}(r:KV kvs vs)(k:κ):RelO (valV kvs k) (valueAt vs k):=by
 unfold KV at r
 induction r with
 |nil=>exact True.intro
 |@cons p q ps qs h t ih =>
  obtain⟨h1,h2⟩:=h
  by_cases e:p.1=k
  ·have e':q.1=k:=h1.symm.trans e
   have b:valueAt (q::qs) k=some q.2:=by simp[valueAt,List.find?_cons,e']
   rw[Wp e,b];exact h2
  ·have e':¬q.1=k:=λz=>e (h1.trans z)
   have b:valueAt (q::qs) k=valueAt qs k:=by simp[valueAt,List.find?_cons,e']
   rw[Wq e,b];exact ih
theorem KV.any {kvs:List (κ×V)}{vs:List (κ×Value)}(r:KV kvs vs)(k:κ):(kvs.any λkv=>decide (kv.1=k))=vs.any λkv=>decide (kv.1=k):=by
 unfold KV at r
 induction r with
 |nil=>rfl
 |cons h t ih=>rw[List.any_cons,List.any_cons,ih,h.1]
theorem KV.repl {kvs:List (κ×V)}{vs:List (κ×Value)}(r:KV kvs vs)(k:κ){y:V}{u:Value}(ry:RelV y u) :
  KV (kvs.map λkv=>if kv.1=k then(kv.1,y) else kv) (vs.map λkv=>if kv.1=k then(kv.1,u) else kv):=by
 unfold KV at r ⊢
 induction r with
 |nil=>exact .nil
 |@cons p q ps qs h t ih =>
  rw[List.map_cons,List.map_cons]
  refine .cons ?_ ih
  obtain⟨h1,h2⟩:=h
  by_cases e:p.1=k
  ·rw[if_pos e,if_pos (h1.symm.trans e)];exact⟨h1,ry⟩
  ·rw[if_neg e,if_neg (λz=>e (h1.trans z))];exact⟨h1,h2⟩
theorem KV.put {kvs:List (κ×V)}{vs:List (κ×Value)}(r:KV kvs vs)(k:κ){y:V}{u:Value}(ry:RelV y u):KV (putK kvs k y) (stored vs k u):=by
 unfold putK stored
 rw[r.any k]
 by_cases e:(vs.any λkv=>decide (kv.1=k))=true
 ·rw[if_pos e,if_pos e];exact r.repl k ry
 ·rw[if_neg e,if_neg e];exact Paired.snoc r ⟨rfl,ry⟩
theorem KV.keys {kvs:List (κ×V)}{vs:List (κ×Value)}(r:KV kvs vs):kvs.map (·.1)=vs.map (·.1):=by
 unfold KV at r
 induction r with
 |nil=>rfl
 |cons h t ih=>rw[List.map_cons,List.map_cons,ih,h.1]
theorem KV.length {kvs:List (κ×V)}{vs:List (κ×Value)}(r:KV kvs vs):kvs.length=vs.length:=Paired.length r
end
theorem Zek {P:Program}{w:World}{k:Key}{u:Value}(r:RelV (kV k) u):(Yu P w).is k u=true:=by
 cases k with
 |inl i=>obtain⟨t,e⟩:=(show ∃t,u=Value.int i t from r);subst e;exact Z9o P w i t
 |inr x=>obtain⟨t,e⟩:=(show ∃t,u=Value.str x t from r);subst e;exact Z9p P w x t
theorem Z6w {P:Program}{w:World}:∀{ks:List Key} {us:List Value},Vals (ks.map kV) us->ItemsAre (Yu P w) ks us
 |[],_,r=>by rw[List.map_nil]at r;cases r;exact .nil
 |k::ks,_,r=>by
  rw[List.map_cons]at r
  cases r with
  |cons h t=>exact .cons (Zek h) (Z6w t)
abbrev KT (H:Hp):List (List Key×V)->List (List Key×Addr×Value)->Prop:=Paired λp q=>p.1=q.1/\H q.2.1=some (.tup (p.1.map kV))/\RelV p.2 q.2.2
theorem KT.val {H:Hp}{kvs:List (List Key×V)}{xs:List (List Key×Addr×Value)}(r:KT H kvs xs)(k:List Key):RelO (valV kvs k) ((atKey xs k).map (·.2)):=by
 induction r with
 |nil=>exact True.intro
 |@cons p q ps qs h t ih =>
  obtain⟨h1,_,h2⟩:=h
  by_cases e:p.1=k
  ·have e':q.1=k:=h1.symm.trans e
   have b:atKey (q::qs) k=some q.2:=by simp[atKey,List.find?_cons,e']
   rw[Wp e,b];exact h2
  ·have e':¬q.1=k:=λz=>e (h1.trans z)
   have b:atKey (q::qs) k=atKey qs k:=by simp[atKey,List.find?_cons,e']
   rw[Wq e,b];exact ih
theorem KT.repl {H:Hp}{kvs:List (List Key×V)}{xs:List (List Key×Addr×Value)}(r:KT H kvs xs)(k:List Key){y:V}{u:Value}(ry:RelV y u) :
  KT H (kvs.map λkv=>if kv.1=k then(kv.1,y) else kv) (xs.map (putAt k u)):=by
 induction r with
 |nil=>exact .nil
 |@cons p q ps qs h t ih =>
  rw[List.map_cons,List.map_cons]
  refine .cons ?_ ih
  obtain⟨h1,h2,h3⟩:=h
  unfold putAt
  by_cases e:p.1=k
  ·rw[if_pos e,if_pos (h1.symm.trans e)];exact⟨h1,h2,ry⟩
  ·rw[if_neg e,if_neg (λz=>e (h1.trans z))];exact⟨h1,h2,h3⟩
theorem KT.put {H:Hp}{kvs:List (List Key×V)}{xs:List (List Key×Addr×Value)}(r:KT H kvs xs)(k:List Key){b:Addr}{y:V}{u:Value}(hb:H b=some (.tup (k.map kV)))(ry:RelV y u) :
  KT H (putK kvs k y) (storedH xs k b u):=by
 have e:(kvs.any λkv=>decide (kv.1=k))=(atKey xs k).isSome:=by
  rw[Ue,(r.val k).isSome_eq,Option.isSome_map]
 unfold putK storedH
 rw[e]
 by_cases q:(atKey xs k).isSome=true
 ·rw[if_pos q,if_pos q];exact r.repl k ry
 ·rw[if_neg q,if_neg q];exact Paired.snoc r ⟨rfl,hb,ry⟩
theorem KT.keeps {H H':Hp}{kvs:List (List Key×V)}{xs:List (List Key×Addr×Value)}(r:KT H kvs xs)(ht:∀b ys,H b=some (.tup ys)->H' b=some (.tup ys)):KT H' kvs xs :=
 Paired.mapP r λ_ _ z=>⟨z.1,ht _ _ z.2.1,z.2.2⟩
noncomputable section
variable {P:Program}{w:World}{H:Hp}{h:Heap}{a:Addr}
theorem Zkp {u:HO}(ok:HOk P w H h)(e:Rd H a u):ObjOk P w H h a u:=e.ok ok
theorem Z1p {kvs:List (Key×V)}(ok:HOk P w H h)(e:Rd H a (.dK kvs)):kvs.length<=sizeLine/\(a==sysModules)=false/\∃vs,KV kvs vs/\h.DictOf (Yu P w) a vs :=
 show ObjOk P w H h a (.dK kvs) from Zkp ok e
theorem Zkq {kvs:List (Key×V)}(ok:HOk P w H h)(e:H a=some (.dK kvs)):kvs.length<=sizeLine/\(a==sysModules)=false/\∃vs,KV kvs vs/\h.DictOf (Yu P w) a vs:=Z1p ok (.inl e)
theorem Z6x {ks:List Key}(ok:HOk P w H h)(e:H a=some (.tup (ks.map kV))):(tupleKind (Yu P w)).is h ks a:=by
 obtain⟨_,its,r,o,h1,h2,n,h3⟩:=(show ObjOk P w H h a (.tup (ks.map kV)) from ok a _ e)
 exact⟨o,its.toArray,n,h1,h2,h3,by simpa using Z6w r⟩
theorem Zcm {kvs:List (List Key×V)}(ok:HOk P w H h)(e:Rd H a (.dT kvs)):kvs.length<=sizeLine/\(a==sysModules)=false/\
  ∃xs,KT H kvs xs/\h.DictOfH (tupleKind (Yu P w)) a xs:=by
 obtain⟨z,y,xs,r,o,es,ep,h1,h2,h3,h4,h5⟩:=(show ObjOk P w H h a (.dT kvs) from Zkp ok e)
 refine⟨z,y,xs,r,o,es,ep,h1,h2,h3,h4,λx hx=>?_,h5⟩
 have all:∀{l:List (List Key×V)} {m:List (List Key×Addr×Value)},KT H l m->∀x∈m,(tupleKind (Yu P w)).is h x.1 x.2.1:=by
  intro l m q
  induction q with
  |nil=>intro x hx;exact nomatch hx
  |@cons p q ps qs hq t ih =>
   intro x hx
   rcases List.mem_cons.mp hx with e | hx
   ·subst e
    exact Z6x ok (by rw[<-hq.1];exact hq.2.1)
   ·exact ih x hx
 exact all r x hx
theorem Zlt {kvs:List (List Key×V)}(ok:HOk P w H h)(e:H a=some (.dT kvs)):kvs.length<=sizeLine/\(a==sysModules)=false/\
  ∃xs,KT H kvs xs/\h.DictOfH (tupleKind (Yu P w)) a xs:=Zcm ok (.inl e)
end
noncomputable def DGet (H:Hp)(a:Addr)(y:V)(r:Option V):Prop :=
 (∃kvs k,Rd H a (.dK kvs)/\y=kV k/\r=valV kvs k)\/∃kvs k b,Rd H a (.dT kvs)/\y=.ref b/\H b=some (.tup (k.map kV))/\r=valV kvs k
noncomputable def DPut (H:Hp)(a:Addr)(y v:V)(H':Hp):Prop :=
 (∃kvs k,H a=some (.dK kvs)/\y=kV k/\kvs.length<sizeLine/\H'=upd H a (.dK (putK kvs k v)))\/
 ∃kvs k b,H a=some (.dT kvs)/\y=.ref b/\H b=some (.tup (k.map kV))/\kvs.length<sizeLine/\H'=upd H a (.dT (putK kvs k v))
theorem DGet.k {H:Hp}{a:Addr}{kvs:List (Key×V)}{k:Key}(e:H a=some (.dK kvs)):DGet H a (kV k) (valV kvs k):=.inl ⟨kvs,k,.inl e,rfl,rfl⟩
theorem DPut.k {H:Hp}{a:Addr}{kvs:List (Key×V)}{k:Key}{v:V}(e:H a=some (.dK kvs))(hl:kvs.length<sizeLine):DPut H a (kV k) v (upd H a (.dK (putK kvs k v))):=.inl ⟨kvs,k,e,rfl,hl,rfl⟩
noncomputable section
variable {X:Cx}{pins:List (Addr×Obj)}{σ:St}{H:Hp}{s:Shared}{a:Addr}{y v:V}{u r:Value}{o:Option V}{A:Around}{E:Value->Shared->Prop}
theorem Inv.big (I:Inv X pins σ H s):sysModules<s.heap.objs.size:=by
 have h:mainGlobals<s.heap.objs.size:=(I.mod.glob.keeps I.bk).lt
 exact Nat.lt_trans (by decide) h
theorem Zel {Q:Value->Shared->Prop}(hu:A.units+1<cLine)(I:Inv X pins σ H s)(g:DGet H a y (some v))(ry:RelV y u)(h:∀w' s',Inv X pins σ H s'->RelV v w'->Q w' s') :
  wpAny (model X.prog X.w) A (getItem (.ref a) u) Q E s:=by
 rcases g with⟨kvs,k,e,ey,l⟩ | ⟨kvs,k,b,e,ey,eb,l⟩
 ·subst ey
  obtain⟨z,hd,vs,rel,dd⟩:=Z1p I.hok e
  obtain⟨w',hw,rw'⟩:=RelO.some_of (v:=v) (o:=valueAt vs k) (by rw[l];exact rel.val k)
  exact wpAny_getItem_of (Zek ry) dd.mapOf hw (h w' _ (I.tok _) rw')
 ·subst ey
  cases (show u=Value.ref b from ry)
  obtain⟨z,hd,xs,rel,dd⟩:=Zcm I.hok e
  obtain⟨w',hw,rw'⟩:=RelO.some_of (v:=v) (o:=(atKey xs k).map (·.2)) (by rw[l];exact rel.val k)
  obtain⟨p,hp,hp2⟩:=Option.map_eq_some_iff.mp hw
  refine wpAny_getItem_heap (tupleKind_room_in1 hu) (Z6x I.hok eb) dd hp ?_
  rw[hp2]
  exact h w' _ (I.tok _) rw'
theorem d_in {Q:Value->Shared->Prop}(hu:A.units+1<cLine)(I:Inv X pins σ H s)(g:DGet H a y o)(ry:RelV y u)(h:∀s',Inv X pins σ H s'->Q (.bool o.isSome) s') :
  wpAny (model X.prog X.w) A (compareOp .In u (.ref a)) Q E s:=by
 rcases g with⟨kvs,k,e,ey,l⟩ | ⟨kvs,k,b,e,ey,eb,l⟩
 ·subst ey
  obtain⟨z,hd,vs,rel,dd⟩:=Z1p I.hok e
  refine wpAny_in_of (Zek ry) hd dd.mapOf ?_
  rw[<-(rel.val k).isSome_eq,<-l]
  exact h _ (I.tok _)
 ·subst ey
  cases (show u=Value.ref b from ry)
  obtain⟨z,hd,xs,rel,dd⟩:=Zcm I.hok e
  refine wpAny_in_heap (tupleKind_room_in1 hu) (Z6x I.hok eb) hd dd ?_
  have q:=(rel.val k).isSome_eq
  rw[Option.isSome_map]at q
  rw[<-q,<-l]
  exact h _ (I.tok _)
theorem Z9v {h':Heap}{t':Nat}{ob:HO}(I:Inv X pins σ H s)(mu:Mut (H a))(hs:Heap.SameBut a s.heap h')(he:∃q,h'.get? a=some q)(new:ObjOk X.prog X.w (upd H a ob) h' a ob) :
  Inv X pins σ (upd H a ob) {s with heap:=h',toks:=t'} :=
 I.write (x:=a) (e:=a) mu (.inl rfl) (λb q hb z=>(hs.2 b hb).trans z) he new
theorem Zkr {P:Program}{w:World}{H':Hp}{h':Heap}{kvs:List (Key×V)}{vs:List (Key×Value)}(z:kvs.length<=sizeLine)(hd:(a==sysModules)=false)(rel:KV kvs vs)(dd:h'.DictOf (Yu P w) a vs) :
  ObjOk P w H' h' a (.dK kvs):=⟨z,hd,vs,rel,dd⟩
theorem Zem {H':Hp}{Q:Unit->Shared->Prop}(hu:A.units+1<cLine)(I:Inv X pins σ H s)(g:DPut H a y v H')(ry:RelV y u)(rv:RelV v r)(h:∀s',Inv X pins σ H' s'->Q () s') :
  wpAny (model X.prog X.w) A (setItem (.ref a) u r) Q E s:=by
 rcases g with⟨kvs,k,e,ey,l,eH⟩ | ⟨kvs,k,b,e,ey,eb,l,eH⟩
 ·subst ey eH
  obtain⟨z,hd,vs,rel,dd⟩:=Zkq I.hok e
  have hz:vs.length<=sizeLine:=by rw[<-rel.length];exact z
  have hl:(putK kvs k v).length<=sizeLine:=by have:=Jz kvs k v;omega
  refine wpAny_setItem_pairs (hsz:=hz) (Zek ry) dd λh' dd' hs=>h _ ?_
  have he:∃q,h'.get? a=some q:=let ⟨q,_,_,hq,_⟩:=dd';⟨q,hq⟩
  exact Z9v I (by rw[e];exact True.intro) hs he (Zkr hl hd (rel.put k rv) dd')
 ·subst ey eH
  cases (show u=Value.ref b from ry)
  obtain⟨z,hd,xs,rel,dd⟩:=Zlt I.hok e
  have hz:xs.length<=sizeLine:=by rw[<-Paired.length rel];exact z
  have hl:(putK kvs k v).length<=sizeLine:=by have:=Jz kvs k v;omega
  refine wpAny_setItem_heap (hsz:=hz) (tupleKind_room_in1 hu) (Z6x I.hok eb) dd λh' dd' hs=>h _ ?_
  obtain⟨q,es,ep,hq,h2,h3,h4,_,h5⟩:=dd'
  refine Z9v I (by rw[e];exact True.intro) hs ⟨q,hq⟩ ⟨hl,hd,_,(rel.put k eb rv).keeps λc ys ec=>?_,q,es,ep,hq,h2,h3,h4,h5⟩
  rw[Zk (Xl ec e (λz=>nomatch z))]
  exact ec
end
noncomputable section
variable {X:Cx}{pins:List (Addr×Obj)}{σ:St}{H:Hp}{s:Shared}{a:Addr}{kvs:List (Key×V)}{k:Key}{u:Value}{A:Around}{E:Value->Shared->Prop}
theorem Zlu {Q:Value->Shared->Prop}(I:Inv X pins σ H s)(e:Rd H a (.dK kvs))(h:∀t s',Inv X pins σ H s'->Q (.int kvs.length t) s'):wpAny (model X.prog X.w) A (call (.builtin "len") [.ref a]) Q E s:=by
 obtain⟨z,hd,vs,rel,dd⟩:=Z1p I.hok e
 refine call_len_dict hd dd (by rw[<-rel.length];rw[sizeLine_eq]at z;omega) ?_
 rw[<-rel.length]
 exact h _ _ (I.tok _)
end
noncomputable def NoSl (i:Expr):Prop:=∀ov iv,subscripted i false ov iv=operate [ov,iv] (getItem ov iv)
theorem Zjh {prog:Program}{w:World}{A:Around}{E:Value->Shared->Prop}{s:Shared}{env:Env}{value slice:Expr}{pos:Pos}{T id:String}{Q:Value->Shared->Prop}
  (hl:typeLookup (.type T) "__getitem__"=pure (some (.builtin id))) (hs:NoSl slice)
  (h:wpAny (model prog w) A (eval value env) (λo s₁=>wpAny (model prog w) A (eval slice env) (λi s₂=>s₂.TypeIs o T/\wpAny (model prog w) A (getItem o i) Q E s₂) E s₁) E s) :
  wpAny (model prog w) A (eval (.Subscript value slice pos) env) Q E s:=by
 refine Subscript_ (wpAny_mono h (λo s₁ h₁=>wpAny_mono h₁ (λi s₂ h₂=>?_) λ_ _ x=>x) λ_ _ x=>x)
 obtain⟨hT,h₂⟩:=h₂
 unfold subscriptTail
 refine wpAny_bind ?_
 rw[getitemInPython_of_ne hT.not_modules]
 refine wpAny_bind (wpAny_specialOf hT hl ?_)
 have fin:wpAny (model prog w) A (subscripted slice false o i) (λr s₃=>wpAny (model prog w) A (letTemporaryGo value o r >>= λ_=>pure r) Q E s₃) E s₂:=by
  rw[hs o i]
  exact wpAny_operating (wpAny_mono h₂ (λr s₃ h₃=>wpAny_bind (wpAny_letTemporaryGo (wpAny_pure h₃))) λ_ _ x=>x)
 first
  |exact wpAny_pure (wpAny_bind fin)
  |exact wpAny_bind (wpAny_pure (wpAny_bind fin))
  |exact wpAny_bind fin
theorem Z9w {X:Cx}{pins:List (Addr×Obj)}{σ:St}{H:Hp}{s:Shared}{a:Addr}{y:V}{o:Option V}(I:Inv X pins σ H s)(g:DGet H a y o):s.TypeIs (.ref a) "dict":=by
 rcases g with⟨kvs,k,e,_,_⟩ | ⟨kvs,k,b,e,_,_,_⟩
 ·obtain⟨_,_,vs,_,dd⟩:=Z1p I.hok e
  exact dd.typeIs
 ·obtain⟨_,_,xs,_,dd⟩:=Zcm I.hok e
  exact dd.typeIs
noncomputable def Zlv (td ty:TE):TE:=λσ H Q=>td σ H λx H1=>ty σ H1 λy H2=>∃a v,x=.ref a/\DGet H2 a y (some v)/\Q v H2
noncomputable def tDIn (ty td:TE):TE:=λσ H Q=>ty σ H λy H1=>td σ H1 λx H2=>∃a o,x=.ref a/\DGet H2 a y o/\Q (.bl o.isSome) H2
noncomputable def Zlw (td ty tv:TE):TS:=λD σ H=>tv σ H λv H1=>td σ H1 λx H2=>ty σ H2 λy H3=>∃a H4,x=.ref a/\DPut H3 a y v H4/\D.nx σ H4
noncomputable section
variable {X:Cx}{o i e value:Expr}{pos pos' tpos:Pos}{td ty tv:TE}
theorem Zen (hu:X.A.units+1<cLine)(ho:PE X o td)(hi:PE X i ty)(hs:NoSl i):PE X (.Subscript o i pos) (Zlv td ty):=by
 intro pins s σ H Q I h
 refine Zjh PySem.F.slot_dict_getitem.lookup hs (thn (ho pins s σ H _ I h) λu s1 ⟨x,H1,I1,rx,q1⟩=>thn (hi pins s1 σ H1 _ I1 q1) λiv s2 ⟨y,H2,I2,ry,a,v,ex,g,q2⟩=>?_)
 subst ex
 obtain rfl:u=Value.ref a:=rx
 exact⟨Z9w I2 g,Zel hu I2 g ry λw' s3 I3 rw'=>⟨v,H2,I3,rw',q2⟩⟩
theorem Z6y (hu:X.A.units+1<cLine)(hi:PE X i ty)(ho:PE X o td):PC X .In i o (tDIn ty td):=by
 intro pins s σ H Q I h
 refine thn (hi pins s σ H _ I h) λiv s1 ⟨y,H1,I1,ry,q1⟩=>thn (ho pins s1 σ H1 _ I1 q1) λu s2 ⟨x,H2,I2,rx,a,ov,ex,g,q2⟩=>?_
 subst ex
 obtain rfl:u=Value.ref a:=rx
 exact d_in hu I2 g ry λs3 I3=>⟨.bl ov.isSome,H2,I3,rfl,q2⟩
theorem Vr (hu:X.A.units+1<cLine)(ho:PE X o td)(hi:PE X i ty)(hv:PE X value tv)(hs:swapsWith value (some (.Subscript o i pos')) pos.line X.env=pure false) :
  PS X (.Assign [.Subscript o i pos'] value pos) (Zlw td ty tv):=by
 intro pins s σ H D I h
 refine wpAny_Assign_Subscript (thn (hv pins s σ H _ I h) λr s1 ⟨v,H1,I1,rv,q1⟩=>thn (ho pins s1 σ H1 _ I1 q1) λu s2 ⟨x,H2,I2,rx,q2⟩=>thn (hi pins s2 σ H2 _ I2 q2) λiv s3 ⟨y,H3,I3,ry,a,H4,ex,g,q3⟩=>?_) hs
 subst ex
 obtain rfl:u=Value.ref a:=rx
 exact Zem hu I3 g ry rv λs4 I4=>⟨σ,H4,I4,q3⟩
end
theorem Zh4 {P:Program}{w:World}{H:Hp}(h:Heap)(hb:sysModules<h.objs.size):ObjOk P w H (h.push {cls:=.type "dict",data:=.dict #[]}) h.objs.size (.dK []) :=
 ⟨Nat.zero_le _,beq_eq_false_iff_ne.mpr (Ne.symm (Nat.ne_of_lt hb)),[],.nil,Heap.DictOf.new h⟩
noncomputable def Zks:TE:=λ_ H Q=>∀p,H p=none->Q (.ref p) (upd H p (.dK []))
noncomputable section
variable {X:Cx}{pos:Pos}
theorem Z3z:PE X (.Dict [] [] pos) Zks:=λpins s σ H Q I h =>
 wpAny_Dict_empty ⟨.ref s.heap.objs.size,_,I.laid (a:=s.heap.objs.size) (o:=.dK []) (t':=s.toks) (λ_ _ q=>Heap.get?_push_of_some _ q) (Nat.le_refl _) (Zh4 s.heap I.big),rfl,h _ (I.hok.fresh (Nat.le_refl _))⟩
end
structure M2 (X:Cx)(o:Expr)(m:Str)(apos:Pos)(e f:Expr)(cpos:Pos):Prop where
 base:attributeBase o m X.env (eval o X.env)=eval o X.env
 few:((backTo cpos (starEach [e,f] X.env)).all (λx=>!x.1)&&(backToKw cpos (keywordEach [] X.env)).all (λx=>x.1.isSome)
  && decide (([e,f]:List Expr).length+([]:List Keyword).length+(if([]:List Keyword).isEmpty then 0 else 1)<30))=true
 line:(apos.endLine==cpos.line)=true
 trees:backTo cpos (starEach [e,f] X.env)=[(false,eval e X.env),(false,eval f X.env)]
noncomputable def IsD (H:Hp)(a:Addr):Prop:=(∃kvs,Rd H a (.dK kvs))\/∃kvs,Rd H a (.dT kvs)
theorem Zkt {X:Cx}{pins:List (Addr×Obj)}{σ:St}{H:Hp}{s:Shared}{a:Addr}(I:Inv X pins σ H s)(d:IsD H a) :
  s.TypeIs (.ref a) "dict"/\(∀b,Value.ref a=.ref b->∃ob,s.heap.get? b=some ob/\ob.dict=none)/\(a==sysModules)=false:=by
 rcases d with⟨kvs,e⟩ | ⟨kvs,e⟩
 ·obtain⟨_,hd,vs,_,dd⟩:=Z1p I.hok e
  refine⟨dd.typeIs,λb q=>?_,hd⟩
  cases q
  obtain⟨ob,_,_,h1,h2,_⟩:=dd
  exact⟨ob,h1,h2.2.1⟩
 ·obtain⟨_,hd,xs,_,dd⟩:=Zcm I.hok e
  refine⟨dd.typeIs,λb q=>?_,hd⟩
  cases q
  obtain⟨ob,_,_,h1,h2,_⟩:=dd
  exact⟨ob,h1,h2.2.1⟩
noncomputable section
variable {X:Cx}{pins:List (Addr×Obj)}{σ:St}{H:Hp}{s:Shared}{a:Addr}{y d:V}{u r:Value}{o:Option V}{A:Around}{E:Value->Shared->Prop}
theorem Zku {Q:Value->Shared->Prop}(hu:A.units+1<cLine)(I:Inv X pins σ H s)(g:DGet H a y o)(ry:RelV y u)(rd:RelV d r)(h:∀w' s',Inv X pins σ H s'->RelV (o.getD d) w'->Q w' s') :
  wpAny (model X.prog X.w) A (call (.builtin "dict.get") [.ref a,u,r]) Q E s:=by
 rcases g with⟨kvs,k,e,ey,l⟩ | ⟨kvs,k,b,e,ey,eb,l⟩
 ·subst ey
  obtain⟨z,hd,vs,rel,dd⟩:=Z1p I.hok e
  refine call_meetsIn PySem.F.slot_dict_get dd.typeIs PySem.F.entry_dict_get (PySem.F.args_dict_get_3 _ _ _) (meets_dict_get_default (Yu X.prog X.w) a (Zek ry) hd r) ⟨_,dd.mapOf,h _ _ (I.tok _) ?_⟩
  rw[l]
  exact(rel.val k).getD rd
 ·subst ey
  cases (show u=Value.ref b from ry)
  obtain⟨z,hd,xs,rel,dd⟩:=Zcm I.hok e
  refine call_meetsIn PySem.F.slot_dict_get dd.typeIs PySem.F.entry_dict_get (PySem.F.args_dict_get_3 _ _ _) (meetsH_dict_get_default (tupleKind (Yu X.prog X.w)) a b hd r) ⟨tupleKind_room_in1 hu,k,xs,Z6x I.hok eb,dd,h _ _ (I.tok _) ?_⟩
  rw[l]
  exact(rel.val k).getD rd
end
noncomputable def Zkv (td ty tx:TE):TE:=λσ H Q=>td σ H λx H1=>∃a,x=.ref a/\IsD H1 a/\ty σ H1 λy H2=>tx σ H2 λz H3=>∃o,DGet H3 a y o/\Q (o.getD z) H3
noncomputable section
variable {X:Cx}{o e f:Expr}{apos cpos:Pos}{td ty tx:TE}
theorem Z4a (hu:X.A.units+1<cLine)(ho:PE X o td)(he:PE X e ty)(hf:PE X f tx)(m:M2 X o "get" apos e f cpos):PE X (.Call (.Attribute o "get" apos) [e,f] [] cpos) (Zkv td ty tx):=by
 intro pins s σ H Q I h
 refine wpAny_Call_method m.base m.few m.line PySem.F.plainAttrs_dict PySem.F.slot_dict_get PySem.F.type_dict_get (thn (ho pins s σ H _ I h) λu s1 ⟨x,H1,I1,rx,a,ex,d,q1⟩=>?_)
 subst ex
 obtain rfl:u=Value.ref a:=rx
 obtain⟨t1,t2,_⟩:=Zkt I1 d
 refine⟨t1,t2,?_⟩
 rw[m.trees]
 refine Calls.callWith_builtin rfl (Calls.evalArgs_plain (Calls.spliced_cons (thn (he pins s1 σ H1 _ I1 q1) λiv s2 ⟨y,H2,I2,ry,q2⟩ =>
  Calls.spliced_cons (thn (hf pins s2 σ H2 _ I2 q2) λfv s3 ⟨z,H3,I3,rz,ov,g,q3⟩=>Calls.spliced_nil ?_))))
 exact Zku hu I3 g ry rz λw' s4 I4 rw'=>⟨_,H3,I4,rw',q3⟩
end
noncomputable section
variable {X:Cx}{pins:List (Addr×Obj)}{σ:St}{H:Hp}{s:Shared}{a:Addr}{kvs:List (Key×V)}{A:Around}{E:Value->Shared->Prop}
end
noncomputable section
variable {X:Cx}{pins:List (Addr×Obj)}{σ:St}{H:Hp}{s:Shared}{a:Addr}{y:V}{u:Value}{A:Around}{E:Value->Shared->Prop}
end
end L2
namespace L2
open PySem PySem.Spec PyProof.Rows
noncomputable section
variable {prog:Program}{w:World}{A:Around}{E:Value->Shared->Prop}
end
noncomputable section
variable {X:Cx}
end
end L2
namespace L2
open PySem PySem.Spec PyProof.Rows
theorem Z1q:bootBuiltins "reversed"=some (.type "reversed"):=by decide +kernel
noncomputable section
variable {X:Cx}{pins:List (Addr×Obj)}{σ:St}{H:Hp}{s:Shared}{h':Heap}
theorem Inv.turnedL {t':Nat}{ch:List Addr}(I:Inv X pins σ H s)(k:∀b o,b∉ch->s.heap.get? b=some o->h'.get? b=some o)(hf:∀b∈ch,FpOk X pins H b):Inv X pins σ H {s with heap:=h',toks:=t'}:=by
 have nit:∀b u,H b=some u->b∉ch:=λb u e z=>by
  have q:=(hf b z).1
  rw[q]at e;cases e
 refine I.step (g':=s.gens) (d':=s.drawn) (ch:=ch) (λb hb=>⟨(hf b hb).2.2.2.1,(hf b hb).2.1,(hf b hb).2.2.2.2.1,(hf b hb).2.2.2.2.2⟩) (λb o _ _ hc e _=>k b o hc e) (λb o _ _ hc e _=>⟨o.slots,k b o hc e⟩)
  (λ_ _ _ _ n=>n) (λb o hc e=>⟨o,k b o hc e⟩) (λ_ _ e=>e) (λ_ _ _ e=>e) (λb ps e=>⟨#[],by rw[e];simp⟩) (λm hm=>?_) (λb u e=>?_) I.bare
 ·obtain⟨o,es,ep,ho,r⟩:=hm
  exact⟨o,es,ep,k _ o (λz=>(hf _ z).2.1 rfl) ho,r⟩
 ·refine(I.hok b u e).stay (λc v hc q=>k c v ?_ q) (λ_ q=>q) λ_ _ q=>q
  rcases hc with z | z
  ·rw[z];exact nit b u e
  ·exact nit c _ z
theorem Inv.turnedNew {t':Nat}{ch:List Addr}{T:Addr}{ob:HO}(I:Inv X pins σ H s)(k:∀b o,b∉ch->s.heap.get? b=some o->h'.get? b=some o)(hf:∀b∈ch,FpOk X pins H b)(hT:s.heap.objs.size<=T)
  (new:ObjOk X.prog X.w (upd H T ob) h' T ob):Inv X pins σ (upd H T ob) {s with heap:=h',toks:=t'}:=by
 have hn:H T=none:=I.hok.fresh hT
 have nit:∀b u,H b=some u->b∉ch:=λb u e z=>by
  have q:=(hf b z).1
  rw[q]at e;cases e
 refine I.step (g':=s.gens) (d':=s.drawn) (ch:=ch) (λb hb=>⟨(hf b hb).2.2.2.1,(hf b hb).2.1,(hf b hb).2.2.2.2.1,(hf b hb).2.2.2.2.2⟩) (λb o _ _ hc e _=>k b o hc e) (λb o _ _ hc e _=>⟨o.slots,k b o hc e⟩)
  (λb o _ e n=>?_) (λb o hc e=>⟨o,k b o hc e⟩) (λb xs e=>?_) (λb o u e=>?_) (λb ps e=>⟨#[],?_⟩) (λm hm=>?_) (λb u e=>?_) I.bare
 ·rw[Zk (Nat.ne_of_lt (Nat.lt_of_lt_of_le (Heap.lt_size e) hT))];exact n
 ·rw[Zk (Zm e hn)];exact e
 ·rw[Zk (Zm e hn)];exact e
 ·rw[Zk (Zm e hn),e];simp
 ·obtain⟨o,es,ep,ho,r⟩:=hm
  exact⟨o,es,ep,k _ o (λz=>(hf _ z).2.1 rfl) ho,r⟩
 ·by_cases hb:b=T
  ·subst hb
   rw[Ze]at e
   cases e
   exact new
  ·rw[Zk hb]at e
   refine(I.hok b u e).stay (λc v hc q=>k c v ?_ q) (λc q=>by rw[Zk (Zm q hn)];exact q) λc xs q=>by rw[Zk (Zm q hn)];exact q
   rcases hc with z | z
   ·rw[z];exact nit b u e
   ·exact nit c _ z
theorem Inv.lock {d:Addr}{u:HO}(I:Inv X pins σ H s)(h:H d=some u)(mu:Mut (some u)):∃od,Inv X pins σ (upd H d (.frz od u)) s:=by
 have x:=I.hok d u h
 have ex:∃od,s.heap.get? d=some od:=by
  cases u with
  |lst xs=>obtain⟨_,_,_,_,e⟩:=x;exact⟨_,e⟩
  |dK kvs=>obtain⟨_,_,_,_,o,_,_,e,_⟩:=x;exact⟨o,e⟩
  |dT kvs=>obtain⟨_,_,_,_,o,_,_,e,_⟩:=x;exact⟨o,e⟩
  |set S n=>obtain⟨o,_,_,_,e,_⟩:=x;exact⟨o,e⟩
  |ins C dx fs=>obtain⟨_,_,_,e,_⟩:=x;exact⟨_,e⟩
  |ext φ=>obtain⟨_,⟨_,e⟩,_⟩:=x;exact⟨_,e⟩
  |_=>exact False.elim mu
 obtain⟨od,e⟩:=ex
 have new:ObjOk X.prog X.w (upd H d (.frz od u)) s.heap d (.frz od u):=by
  refine⟨e,x.stay (λb v _ q=>q) (λb q=>?_) λb xs q=>?_⟩
  ·rw[Zk (λz=>by rw[z,h]at q;cases q;exact mu)];exact q
  ·rw[Zk (λz=>by rw[z,h]at q;cases q;exact mu)];exact q
 exact⟨od,I.write (x:=d) (e:=d) (t':=s.toks) (h':=s.heap) (by rw[h];exact mu) (.inl rfl) (λb v _ q=>q) ⟨od,e⟩ new⟩
theorem Inv.nofrz {d:Addr}{u:HO}(I:Inv X pins σ H s)(h:H d=some u)(mu:Mut (some u)):∀o' u',X.H_0 d≠some (.frz o' u'):=λo' u' e=>by
 have q:=I.base.frzs d o' u' e
 rw[h]at q
 cases q
 exact mu
theorem Inv.unlock {d:Addr}{od:Obj}{u:HO}(I:Inv X pins σ H s)(h:H d=some (.frz od u))(hn:∀o' u',X.H_0 d≠some (.frz o' u')):Inv X pins σ (upd H d u) s:=by
 have neH:∀b o,H b=some o->(∀o' u',o≠.frz o' u')->b≠d:=λb o e hne z=>by
  rw[z,h]at e
  cases e
  exact hne _ _ rfl
 have neN:∀b,H b=none->b≠d:=λb e z=>by rw[z,h]at e;cases e
 refine⟨I.ok,I.os,I.bare,⟨I.base.keep,I.base.slot,λb o e n hx=>?_,I.base.there,λb xs e=>?_,λb o x e=>?_,λb ps e=>?_⟩,I.loc,I.cell,?_,λx c e=>?_,λp hp=>?_,λb o e=>?_,I.len⟩
 ·rw[Zk (neN b (I.base.free b o e n hx))];exact I.base.free b o e n hx
 ·have q:=I.base.tups b xs e
  rw[Zk (neH b _ q (λ_ _ z=>nomatch z))];exact q
 ·have q:=I.base.frzs b o x e
  rw[Zk (λz=>by rw[z]at e;exact hn _ _ e)];exact q
 ·obtain⟨m,q⟩:=I.base.tbls b ps e
  exact⟨m,by rw[Zk (neH b _ q (λ_ _ z=>nomatch z))];exact q⟩
 ·rw[Zk (neN _ I.free)];exact I.free
 ·rw[Zk (neN c (I.freeC x c e))];exact I.freeC x c e
 ·obtain⟨e,n,r⟩:=I.pin p hp
  exact⟨e,by rw[Zk (neN _ n)];exact n,r⟩
 ·by_cases hb:b=d
  ·rw[hb,Ze]at e
   cases e
   rw[hb]
   obtain⟨_,x⟩:=I.hok d _ h
   exact x.stay (λc v _ q=>q) (λc q=>by rw[Zk (neH c _ q (λ_ _ z=>nomatch z))];exact q) λc xs q=>by rw[Zk (neH c _ q (λ_ _ z=>nomatch z))];exact q
  ·rw[Zk hb]at e
   exact(I.hok b o e).stay (λc v _ q=>q) (λc q=>by rw[Zk (neH c _ q (λ_ _ z=>nomatch z))];exact q) λc xs q=>by rw[Zk (neH c _ q (λ_ _ z=>nomatch z))];exact q
end
noncomputable def Zlx (t:TS):TS:=λD σ H=>∃d u,H d=some u/\Mut (some u)/\∀od,t ⟨λσ' H'=>H' d=some (.frz od u)/\D.nx σ' (upd H' d u),λv H'=>H' d=some (.frz od u)/\D.rt v (upd H' d u),λσ' H'=>H' d=some (.frz od u)/\D.bk σ' (upd H' d u),λσ' H'=>H' d=some (.frz od u)/\D.ct σ' (upd H' d u)⟩ σ (upd H d (.frz od u))
noncomputable def Zkw (t:TE):TE:=λσ H Q=>∃d u,H d=some u/\Mut (some u)/\∀od,t σ (upd H d (.frz od u)) λv H'=>H' d=some (.frz od u)/\Q v (upd H' d u)
noncomputable section
variable {X:Cx}
theorem Z9x {st:Stmt}{t:TS}(h:PS X st t):PS X st (Zlx t):=by
 intro pins s σ H D I hw
 obtain⟨d,u,hd,mu,hw⟩:=hw
 obtain⟨od,I1⟩:=I.lock hd mu
 refine thn (h pins s σ _ _ I1 (hw od)) λf s1 q=>?_
 cases f with
 |next=>obtain⟨σ',H',I2,e,q⟩:=q;exact⟨σ',_,I2.unlock e (I.nofrz hd mu),q⟩
 |brk=>obtain⟨σ',H',I2,e,q⟩:=q;exact⟨σ',_,I2.unlock e (I.nofrz hd mu),q⟩
 |cont=>obtain⟨σ',H',I2,e,q⟩:=q;exact⟨σ',_,I2.unlock e (I.nofrz hd mu),q⟩
 |ret v=>obtain⟨x,σ',H',I2,r,e,q⟩:=q;exact⟨x,σ',_,I2.unlock e (I.nofrz hd mu),r,q⟩
theorem Zji {e:Expr}{t:TE}(h:PE X e t):PE X e (Zkw t):=by
 intro pins s σ H Q I hw
 obtain⟨d,u,hd,mu,hw⟩:=hw
 obtain⟨od,I1⟩:=I.lock hd mu
 refine thn (h pins s σ _ _ I1 (hw od)) λv s1 ⟨x,H1,I2,r,e2,q⟩=>?_
 exact⟨x,_,I2.unlock e2 (I.nofrz hd mu),r,q⟩
theorem Zif {tg:Expr}{pins:List (Addr×Obj)}{σ:St}{H:Hp}{s:Shared}{R:It->Hp->Prop}{J:It}{tn:Nat->Heap->Prop}{tk:Nat}(I:Inv X pins σ H s)(o:Obj)
  (T:Turn X.prog X.w X.K tg J [s.heap.objs.size] s.heap.objs.size tn) (st:tn 0 (s.heap.push o)) (q:R J H):PIE X pins σ tg R (.ref s.heap.objs.size) {s with heap:=s.heap.push o,toks:=tk}:=by
 refine⟨s.heap.objs.size,[s.heap.objs.size],tn,J,H,rfl,I.kept λb ob e=>Heap.get?_push_of_some _ e,T,st,λb hb=>?_,q⟩
 have e:b=s.heap.objs.size:=by simpa using hb
 subst e
 exact I.fpOk (Nat.le_refl _) (I.hok.fresh (Nat.le_refl _))
end
noncomputable def Itc (lo c:Int)(n:Nat):It:=⟨λi _=>i<n,λi H x H'=>H'=H/\x=.int (lo+(i:Nat)*c),λi _=>n<=i⟩
theorem Z9y {P:Program}{w:World}{K:PySem.W.Frag}{tg:Expr}(it:Addr)(lo c:Int)(n:Nat):Turn P w K tg (Itc lo c n) [it] it (λi h=>IsRangeIter h it (lo+(i:Nat)*c) ((n:Int)-(i:Nat)) c) where
 mem:=by simp
 obj:=λi h st b hb=>by
  have e:b=it:=by simpa using hb
  subst e
  exact⟨_,st,λv z=>nomatch z⟩
 keep:=λi h h' st k=>k it (by simp) _ st
 item:=by
  intro X hP hw hK hc i pins s σ H E I hf st hg
  subst hP hw hK
  obtain⟨f0,f1,f2,f3,f4,f5⟩:=hf it (by simp)
  have W:=Walks.range (prog:=X.prog) (w:=X.w) (I.ok.hd hc) it lo c n
  refine W.item i s _ _ hg st λv h' tk hv st' kk=>?_
  obtain⟨t,rfl⟩:=hv
  have I1:Inv X pins σ H {s with heap:=h',toks:=tk}:=I.turned (λb o hb e=>kk b o (by simpa using hb) e) f0 f1 f3 f4 f5
  exact⟨_,rfl,Zdv (s:={s with heap:=h',toks:=tk}) (n:="range_iterator") st' rfl rfl (by decide) ⟨.int (lo+(i:Nat)*c),H,I1,⟨t,rfl⟩,⟨rfl,rfl⟩,st',λb hb=>(hf b hb).1⟩⟩
 done:=by
  intro X hP hw hK hc i pins s σ H E I hf st hg
  subst hP hw hK
  obtain⟨f0,f1,f2,f3,f4,f5⟩:=hf it (by simp)
  exact wpAny_pyNext_range_end (I.ok.hd hc) st (by have:n<=i:=hg;omega) λh' eb=>⟨rfl,I.turned (t':=s.toks) (λb o hb e=>eb b o hb e) f0 f1 f3 f4 f5⟩
 self:=λA i s Q E st h=>wpAny_pyIter_rangeiter st h
noncomputable def RgC (i j c:Int)(n:Nat):Prop:=c≠0/\c.natAbs<1073741824/\Builtin.Range.small i j c=true/\Builtin.Range.rangeSize i j c=n
noncomputable def Zly (ta:TA):TI:=λσ H R=>ta σ H λvs H1=>∃(i j c:Int) (n:Nat),vs=[.int i,.int j,.int c]/\RgC i j c n/\R (Itc i c n) H1
noncomputable section
variable {X:Cx}{tg:Expr}
theorem Zeo {a b c:Expr}{ta:TA}{p pos:Pos}(hg:Gl X "range")(hm:X.mg "range"=none)(ha:PA X [a,b,c] ta)
  (hs:starEach [a,b,c] X.env=(false,eval a X.env)::starEach [b,c] X.env:=by rfl) (hpl:(backTo pos (starEach [b,c] X.env)).any (·.1)=false:=by rfl) :
  PI X tg (.Call (.Name "range" p) [a,b,c] [] pos) (Zly ta):=by
 intro pins s σ H R I h
 refine Call_ (Td I hg hm boot_range (PyProof.Rows.callWith_type1 (thn (ha pos pins s σ H _ I h) λus s1 ⟨vs,H1,I1,r1,q1⟩=>?_) hs hpl))
 obtain⟨i,j,k,n,e,⟨c0,c1,c2,c3⟩,q⟩:=q1
 subst e
 cases r1 with
 |cons r rr =>
  cases rr with
  |cons r' rr =>
   cases rr with
   |cons r'' rr =>
    cases rr
    obtain⟨t,rfl⟩:=r
    obtain⟨t',rfl⟩:=r'
    obtain⟨t'',rfl⟩:=r''
    refine call_range_3 c0 ?_ (.inl (PyProof.noPylong_small c1))
    refine wpAny_pyIter_range (IsRange.new ..) c2 ?_
    have I2:Inv X pins σ H1 {s1 with heap:=s1.heap.push {cls:=.type "range",data:=.fields #[.int i t,.int j t',.int k t'']}}:=I1.kept (t':=s1.toks) λb o e=>Heap.get?_push_of_some _ e
    refine Zif (tk:=s1.toks) I2 _ (Z9y _ i k n) ?_ q
    have e1:i+((0:Nat):Int)*k=i:=by simp
    have e2:(n:Int)-((0:Nat):Int)=Builtin.Range.rangeSize i j k:=by rw[c3];simp
    show IsRangeIter _ _ (i+((0:Nat):Int)*k) ((n:Int)-((0:Nat):Int)) k
    rw[e1,e2]
    exact Heap.get?_push_size _ rfl
end
noncomputable section
variable {X:Cx}{tg:Expr}
end
noncomputable section
variable {prog:Program}{w:World}{A:Around}{E:Value->Shared->Prop}{s:Shared}
end
theorem Zig {κ:Type}{kvs:List (κ×V)}{vs:List (κ×Value)}(h:KV kvs vs):∀{i:Nat} {k:κ} {v:V},kvs[i]?=some (k,v)->∃u,vs[i]?=some (k,u)/\RelV v u:=by
 unfold KV at h
 induction h with
 |nil=>intro i k v e;simp at e
 |@cons a b l₁ l₂ r t ih =>
  intro i k v e
  cases i with
  |zero =>
   simp only[List.getElem?_cons_zero,Option.some.injEq]at e
   subst e
   refine⟨b.2,?_,r.2⟩
   simp only[List.getElem?_cons_zero]
   exact congrArg some (Prod.ext r.1.symm rfl)
  |succ j =>
   simp only[List.getElem?_cons_succ]at e ⊢
   exact ih e
theorem Zh5 {k:Key}{u:Value}(h:Z6f k u=true):RelV (kV k) u:=by
 rcases Yn h with⟨i,t,rfl,rfl⟩ | ⟨x,t,rfl,rfl⟩
 ·exact⟨t,rfl⟩
 ·exact⟨t,rfl⟩
noncomputable section
variable {X:Cx}{pins:List (Addr×Obj)}{σ:St}{H:Hp}{s:Shared}{d:Addr}{o:Obj}
theorem Inv.frzK {kvs:List (Key×V)}(I:Inv X pins σ H s)(h:H d=some (.frz o (.dK kvs))) :
  (d==sysModules)=false/\s.heap.get? d=some o/\o.ExactDict/\∃(es:Array DictEntry) (ep:Nat) (vs:List (Key×Value)),o.data=.dict es ep/\es.size=kvs.length/\KV kvs vs/\s.heap.DictAt (Yu X.prog X.w) d vs ep:=by
 obtain⟨hd,z,hs,vs,kv,o',es,ep,ho,hx,hdt,r⟩:=I.hok d _ h
 rw[hd]at ho
 cases ho
 refine⟨hs,hd,hx,es,ep,vs,hdt,?_,kv,o,es,hd,hx,hdt,r⟩
 have l1:=r.2.1.length
 have l2:kvs.length=vs.length:=Paired.length kv
 rw[Array.length_toList]at l1
 omega
end
noncomputable def Itd (d:Addr)(o:Obj)(kvs:List (Key×V)):It :=
 ⟨λi H=>H d=some (.frz o (.dK kvs))/\i<kvs.length,λi H x H'=>H'=H/\∃k,kvs[i]?=some (k,x),λi H=>H d=some (.frz o (.dK kvs))/\kvs.length<=i⟩
noncomputable def Iti (d:Addr)(o:Obj)(kvs:List (Key×V)):It :=
 ⟨λi H=>H d=some (.frz o (.dK kvs))/\i<kvs.length,λi H x H'=>∃T k v,kvs[i]?=some (k,v)/\x=.ref T/\H T=none/\H'=upd H T (.tup [kV k,v]),λi H=>H d=some (.frz o (.dK kvs))/\kvs.length<=i⟩
theorem Z4b {o:Obj}{es es':Array DictEntry}{ep ep':Nat}(h:o.data=.dict es ep)(h':o.data=.dict es' ep'):es'=es/\ep'=ep:=by
 rw[h]at h'
 cases h'
 exact⟨rfl,rfl⟩
noncomputable section
variable {P:Program}{w:World}{K:PySem.W.Frag}{tg:Expr}{d:Addr}{o:Obj}{es:Array DictEntry}{ep:Nat}
theorem Zkx {kvs:List (Key×V)}(it:Addr)(hod:o.data=.dict es ep):Turn P w K tg (Itd d o kvs) [it] it (λi h=>h.IsValIter it d i kvs.length ep) where
 mem:=by simp
 obj:=λi h st b hb=>by
  have e:b=it:=by simpa using hb
  subst e
  obtain⟨oi,e,c,dd⟩:=st
  exact⟨oi,e,λv z=>by rw[dd]at z;cases z⟩
 keep:=λi h h' st k=>st.at λoi e=>k it (by simp) oi e
 item:=by
  intro X hP hw hK hc i pins s σ H E I hf st hg
  subst hP hw hK
  obtain⟨hd,hi⟩:=hg
  obtain⟨f0,f1,f2,f3,f4,f5⟩:=hf it (by simp)
  obtain⟨hs,hgd,hx,es',ep',vs,hdt,hsz,kv,hm⟩:=I.frzK hd
  obtain⟨rfl,rfl⟩:=Z4b hod hdt
  obtain⟨⟨k,v⟩,hkv⟩:∃p,kvs[i]?=some p:=⟨kvs[i],List.getElem?_eq_getElem hi⟩
  obtain⟨u,hu,ru⟩:=Zig kv hkv
  have hl:kvs.length=vs.length:=Paired.length kv
  rw[hl]at st
  refine wpAny_pyNext_values_item st hm hu λh' st' sb=>?_
  have I1:Inv X pins σ H {s with heap:=h'}:=I.turned (t':=s.toks) (λb ob hb e=>(sb.2 b hb).trans e) f0 f1 f3 f4 f5
  obtain⟨oi,e,c,dd⟩:=id st'
  refine⟨u,rfl,Zdv (s:={s with heap:=h'}) e c dd (by decide) ⟨v,H,I1,ru,⟨rfl,k,hkv⟩,?_,λb hb=>(hf b hb).1⟩⟩
  show h'.IsValIter it d (i+1) kvs.length _
  rw[hl]
  exact st'
 done:=by
  intro X hP hw hK hc i pins s σ H E I hf st hg
  subst hP hw hK
  obtain⟨hd,hi⟩:=hg
  obtain⟨f0,f1,f2,f3,f4,f5⟩:=hf it (by simp)
  obtain⟨hs,hgd,hx,es',ep',vs,hdt,hsz,kv,hm⟩:=I.frzK hd
  obtain⟨rfl,rfl⟩:=Z4b hod hdt
  have hl:kvs.length=vs.length:=Paired.length kv
  rw[hl]at st
  exact wpAny_pyNext_values_end (I.ok.hd hc) st hm (List.getElem?_eq_none (by omega)) λh' eb=>⟨rfl,I.turned (t':=s.toks) (λb ob hb e=>eb b ob hb e) f0 f1 f3 f4 f5⟩
 self:=λA i s Q E st h=>wpAny_pyIter_valiter st h
theorem Zcn {kvs:List (Key×V)}{elts:List Expr}{kk:Nat}{tpos:Pos}(it:Addr)(hod:o.data=.dict es ep) :
  Turn P w K (.Tuple elts kk tpos) (Iti d o kvs) [it] it (λi h=>∃ok ov,IsItemIter h it d i kvs.length ep ok ov) where
 mem:=by simp
 obj:=λi h st b hb=>by
  have e:b=it:=by simpa using hb
  subst e
  obtain⟨ok,ov,e⟩:=st
  exact⟨_,e,λv z=>nomatch z⟩
 keep:=λi h h' st k=>let ⟨ok,ov,e⟩:=st;⟨ok,ov,k it (by simp) _ e⟩
 item:=by
  intro X hP hw hK hc i pins s σ H E I hf st hg
  subst hP hw hK
  obtain⟨hd,hi⟩:=hg
  obtain⟨hs,hgd,hx,es',ep',vs,hdt,hsz,kv,hm⟩:=I.frzK hd
  obtain⟨rfl,rfl⟩:=Z4b hod hdt
  obtain⟨⟨k,v⟩,hkv⟩:∃p,kvs[i]?=some p:=⟨kvs[i],List.getElem?_eq_getElem hi⟩
  obtain⟨u,hu,ru⟩:=Zig kv hkv
  have hl:kvs.length=vs.length:=Paired.length kv
  obtain⟨ok,ov,he⟩:=st
  rw[hl]at he
  have hlt:it<s.heap.objs.size:=Heap.lt_size he
  refine wpAny_pyNext_items_item he hm hu λkey h' hkey ho hT hz hk=>?_
  refine⟨_,rfl,wpAny_letOwnedTupleGo_items (s:={s with heap:=h'}) ho λh'' he' sb=>?_⟩
  have hT2:h''.get? s.heap.objs.size=some {cls:=.type "tuple",data:=.seq #[key,u]}:=(sb.2 _ (Nat.ne_of_gt hlt)).trans hT
  have new:ObjOk X.prog X.w (upd H s.heap.objs.size (.tup [kV k,v])) h'' s.heap.objs.size (.tup [kV k,v]) :=
   ⟨by show 2<=sizeLine;decide,[key,u],.cons (Zh5 (show Z6f k key=true from hkey)) (.cons ru .nil),⟨_,hT2,rfl,_,rfl⟩⟩
  have I1:Inv X pins σ (upd H s.heap.objs.size (.tup [kV k,v])) {s with heap:=h''} :=
   I.turnedNew (t':=s.toks) (ch:=[it]) (λb ob hb e=>(sb.2 b (by simpa using hb)).trans (hk b ob (by simpa using hb) e)) hf (Nat.le_refl _) new
  refine⟨.ref s.heap.objs.size,_,I1,rfl,⟨_,k,v,hkv,rfl,I.hok.fresh (Nat.le_refl _),rfl⟩,⟨key,u,?_⟩,λb hb=>?_⟩
  ·rw[hl];exact he'
  ·have e:b=it:=by simpa using hb
   rw[e,Zk (Nat.ne_of_lt hlt)]
   exact(hf it (by simp)).1
 done:=by
  intro X hP hw hK hc i pins s σ H E I hf st hg
  subst hP hw hK
  obtain⟨hd,hi⟩:=hg
  obtain⟨f0,f1,f2,f3,f4,f5⟩:=hf it (by simp)
  obtain⟨hs,hgd,hx,es',ep',vs,hdt,hsz,kv,hm⟩:=I.frzK hd
  obtain⟨rfl,rfl⟩:=Z4b hod hdt
  have hl:kvs.length=vs.length:=Paired.length kv
  obtain⟨ok,ov,he⟩:=st
  rw[hl]at he
  exact wpAny_pyNext_items_end (I.ok.hd hc) he hm (List.getElem?_eq_none (by omega)) λh' eb=>⟨rfl,I.turned (t':=s.toks) (λb ob hb e=>eb b ob hb e) f0 f1 f3 f4 f5⟩
 self:=λA i s Q E st h=>let ⟨_,_,e⟩:=st;PySem.W.kcp_self e h
end
noncomputable def Zky (td:TE):TI:=λσ H R=>td σ H λx H1=>∃d o kvs,x=.ref d/\H1 d=some (.frz o (.dK kvs))/\R (Iti d o kvs) H1
noncomputable section
variable {X:Cx}{tg e:Expr}{td:TE}{apos cpos:Pos}
theorem Z4c {elts:List Expr}{kk:Nat}{tpos:Pos}(he:PE X e td)(hbase:attributeBase e "items" X.env (eval e X.env)=eval e X.env:=by rfl)(hline:(apos.endLine==cpos.line)=true:=by rfl) :
  PI X (.Tuple elts kk tpos) (.Call (.Attribute e "items" apos) [] [] cpos) (Zky td):=by
 intro pins s σ H R I h
 refine wpAny_Call_method (T:="dict") (id:="dict.items") hbase rfl hline F.plainAttrs_dict F.slot_dict_items F.type_dict_items (thn (he pins s σ H _ I h) λu s1 ⟨x,H1,I1,rx,d,o,kvs,ex,hd,q⟩=>?_)
 subst ex
 obtain rfl:u=Value.ref d:=rx
 obtain⟨hs,hgd,hx,es,ep,vs,hdt,hsz,kv,hm⟩:=I1.frzK hd
 have hl:kvs.length=vs.length:=Paired.length kv
 refine⟨hm.dictOf.typeIs,hm.dictOf.mapOf.noDict,?_⟩
 have I2:Inv X pins σ H1 {s1 with heap:=s1.heap.push {cls:=.type "dict_items",data:=.fields #[.ref d]}}:=I1.kept (t':=s1.toks) λb ob q=>Heap.get?_push_of_some _ q
 have fin:wpAny (model X.prog X.w) X.A (pyIter (.ref s1.heap.objs.size)) (PIE X pins σ (.Tuple elts kk tpos) R) X.xe {s1 with heap:=s1.heap.push {cls:=.type "dict_items",data:=.fields #[.ref d]}}:=by
  refine wpAny_pyIter_items (d:=d) (knd:=Yu X.prog X.w) ⟨_,Heap.get?_push_size _ rfl,rfl,rfl⟩ (hm.push _) (Zif (tk:=s1.toks) I2 _ (Zcn _ hdt) ⟨.none,.none,?_⟩ q)
  rw[hl]
  exact Heap.get?_push_size _ rfl
 show wpAny _ _ (callWith cpos (.builtin "dict.items") [.ref d] [] []) _ X.xe s1
 exact method_meetsIn F.slot_dict_items F.entry_dict_items rfl (PySem.evalArgs_none ⟨rfl,hm.dictOf.typeIs,F.args_dict_items_1 _,_,meets_dict_items (Yu X.prog X.w) d hs,⟨vs,hm.dictOf⟩,fin⟩)
end
noncomputable def Ite (K:PySem.W.Frag)(a:Addr):It :=
 ⟨λi H=>∃(xs:List V) (x:V),SqL K H a xs/\xs[i]?=some x,λi H v H'=>∃T x,v=.ref T/\H T=none/\H'=upd H T (.tup [.int (i:Nat),x])/\∀xs,SqL K H a xs->xs[i]?=some x,λi H=>∃xs:List V,SqL K H a xs/\xs.length<=i⟩
theorem Zep {P:Program}{w:World}{K:PySem.W.Frag}{elts:List Expr}{kk:Nat}{tpos:Pos}(a e it:Addr) :
  Turn P w K (.Tuple elts kk tpos) (Ite K a) [e,it] e (λi h=>(∃old,IsEnum h e it ((i:Nat):Int) old)/\h.IsListIter it a i/\e≠it) where
 mem:=by simp
 obj:=λi h st b hb=>by
  obtain⟨⟨old,he⟩,⟨o,ho,hc,hd⟩,_⟩:=st
  have e':b=e\/b=it:=by simpa using hb
  rcases e' with z | z
  ·rw[z];exact⟨_,he,λv q=>nomatch q⟩
  ·rw[z];exact⟨o,ho,λv q=>by rw[hd]at q;cases q⟩
 keep:=λi h h' st k=>let ⟨⟨old,he⟩,hi,hne⟩:=st;⟨⟨old,k e (by simp) _ he⟩,hi.at λo q=>k it (by simp) o q,hne⟩
 item:=by
  intro X hP hw hK hc i pins s σ H E I hf st hg
  subst hP hw hK
  obtain⟨⟨old,he⟩,hit,hne⟩:=st
  obtain⟨xs,x,hq,hx⟩:=hg
  obtain⟨its,rv,p,hz⟩:=I.list hq
  obtain⟨u,hu,ru⟩:=rv.get hx
  have hel:e<s.heap.objs.size:=Heap.lt_size he
  have hil:it<s.heap.objs.size:=by obtain⟨_,q,_⟩:=hit;exact Heap.lt_size q
  refine wpAny_pyNext_enum_item he hit p.isList (x:=u) (by simpa using hu) hne λh' ho hit' hT hsz hk=>?_
  refine⟨_,rfl,wpAny_letOwnedTupleGo_enum (s:={s with heap:=h',toks:=s.toks+1}) ho λh'' he' sb=>?_⟩
  have hT2:h''.get? s.heap.objs.size=some {cls:=.type "tuple",data:=.seq #[.int i s.toks,u]}:=(sb.2 _ (Nat.ne_of_gt hel)).trans hT
  have new:ObjOk X.prog X.w (upd H s.heap.objs.size (.tup [.int (i:Nat),x])) h'' s.heap.objs.size (.tup [.int (i:Nat),x]) :=
   ⟨by show 2<=sizeLine;decide,[.int i s.toks,u],.cons ⟨_,rfl⟩ (.cons ru .nil),⟨_,hT2,rfl,_,rfl⟩⟩
  have I1:Inv X pins σ (upd H s.heap.objs.size (.tup [.int (i:Nat),x])) {s with heap:=h'',toks:=s.toks+1} :=
   I.turnedNew (ch:=[e,it]) (λb ob hb q=>(sb.2 b (λz=>hb (by simp[z]))).trans (hk b ob (λz=>hb (by simp[z])) (λz=>hb (by simp[z])) q)) hf (Nat.le_refl _) new
  refine⟨.ref s.heap.objs.size,_,I1,rfl,⟨_,x,rfl,I.hok.fresh (Nat.le_refl _),rfl,λys hy=>by rw[I.list_inj hy hq];exact hx⟩,⟨⟨u,?_⟩,hit'.at λo q=>(sb.2 it (Ne.symm hne)).trans q,hne⟩,λb hb=>?_⟩
  ·have e1:((i+1:Nat):Int)=(i:Int)+1:=by omega
   rw[e1];exact he'
  ·have hb':b<s.heap.objs.size:=by
    have e':b=e\/b=it:=by simpa using hb
    rcases e' with z | z
    ·rw[z];exact hel
    ·rw[z];exact hil
   rw[Zk (Nat.ne_of_lt hb')]
   exact(hf b hb).1
 done:=by
  intro X hP hw hK hc i pins s σ H E I hf st hg
  subst hP hw hK
  obtain⟨⟨old,he⟩,hit,hne⟩:=st
  obtain⟨xs,hq,hx⟩:=hg
  obtain⟨its,rv,p,hz⟩:=I.list hq
  obtain⟨f0,f1,f2,f3,f4,f5⟩:=hf it (by simp)
  have hl:=rv.length
  exact wpAny_pyNext_enum_end (I.ok.hd hc) he hit p.isList (by simp;omega) λh' eb=>⟨rfl,I.turned (t':=s.toks) (λb o hb q=>eb b o hb q) f0 f1 f3 f4 f5⟩
 self:=λA i s Q E st h=>let ⟨⟨_,he⟩,_⟩:=st;wpAny_pyIter_enum he h
noncomputable def Zlz (K:PySem.W.Frag)(ta:TA):TI:=λσ H R=>ta σ H λvs H1=>∃a xs,vs=[.ref a]/\SqL K H1 a xs/\R (Ite K a) H1
theorem Zeq {X:Cx}{e:Expr}{ta:TA}{p pos tpos:Pos}{elts:List Expr}{kk:Nat}(hg:Gl X "enumerate")(hm:X.mg "enumerate"=none)(ha:PA X [e] ta)(hs:starEach [e] X.env=[(false,eval e X.env)]:=by rfl) :
  PI X (.Tuple elts kk tpos) (.Call (.Name "enumerate" p) [e] [] pos) (Zlz X.K ta):=by
 intro pins s σ H R I h
 refine Call_ (Td I hg hm boot_enumerate (PyProof.Rows.callWith_type1 (thn (ha pos pins s σ H _ I h) λus s1 ⟨vs,H1,I1,r1,q1⟩=>?_) hs rfl))
 obtain⟨a,xs,ex,hq,q⟩:=q1
 subst ex
 cases r1 with
 |cons r rr =>
  cases rr
  cases r
  obtain⟨its,rv,p',hz⟩:=I1.list hq
  refine call_enumerate_list p'.isList λh' he hit hsz hk=>wpAny_pyIter_enum he ?_
  have I2:Inv X pins σ H1 {s1 with heap:=h'}:=I1.kept (t':=s1.toks) hk
  refine⟨s1.heap.objs.size+1,[s1.heap.objs.size+1,s1.heap.objs.size],_,_,H1,rfl,I2,Zep a (s1.heap.objs.size+1) s1.heap.objs.size,⟨⟨.none,he⟩,hit,Nat.succ_ne_self _⟩,λb hb=>?_,q⟩
  have e':b=s1.heap.objs.size+1\/b=s1.heap.objs.size:=by simpa using hb
  have hle:s1.heap.objs.size<=b:=by
   rcases e' with z | z
   ·rw[z];exact Nat.le_add_right _ _
   ·rw[z];exact Nat.le_refl _
  exact I1.fpOk hle (I1.hok.fresh hle)
theorem Zer:bootBuiltins "zip"=some (.type "zip"):=by decide +kernel
noncomputable def Itz (K:PySem.W.Frag)(a b:Addr):It :=
 ⟨λi H=>∃(xs ys:List V) (x y:V),SqL K H a xs/\SqL K H b ys/\xs[i]?=some x/\ys[i]?=some y,
  λi H v H'=>∃T x y,v=.ref T/\H T=none/\H'=upd H T (.tup [x,y])/\(∀xs,SqL K H a xs->xs[i]?=some x)/\∀ys,SqL K H b ys->ys[i]?=some y,
  λi H=>∃xs ys:List V,SqL K H a xs/\SqL K H b ys/\(xs.length<=i\/ys.length<=i)⟩
theorem Zh6 {P:Program}{w:World}{K:PySem.W.Frag}{elts:List Expr}{kk:Nat}{tpos:Pos}{a b z TI TO i1 i2:Addr}(D:ZipApart z TI TO i1 i2 a b) :
  Turn P w K (.Tuple elts kk tpos) (Itz K a b) [z,TI,TO,i1,i2] z (λi h=>IsZip h z TI TO .none/\IsPair h TI (.ref i1) (.ref i2)/\(∃x y,IsPair h TO x y)/\h.IsListIter i1 a i/\h.IsListIter i2 b i) where
 mem:=by simp
 obj:=λi h st c hc=>by
  obtain⟨hz,hTI,⟨x,y,hTO⟩,⟨o1,e1,_,d1⟩,⟨o2,e2,_,d2⟩⟩:=st
  have e':c=z\/c=TI\/c=TO\/c=i1\/c=i2:=by simpa using hc
  rcases e' with q | q | q | q | q
  ·rw[q];exact⟨_,hz,λv q=>nomatch q⟩
  ·rw[q];exact⟨_,hTI,λv q=>nomatch q⟩
  ·rw[q];exact⟨_,hTO,λv q=>nomatch q⟩
  ·rw[q];exact⟨o1,e1,λv q=>by rw[d1]at q;cases q⟩
  ·rw[q];exact⟨o2,e2,λv q=>by rw[d2]at q;cases q⟩
 keep:=λi h h' st k=>by
  obtain⟨hz,hTI,⟨x,y,hTO⟩,h1,h2⟩:=st
  exact⟨k z (by simp) _ hz,k TI (by simp) _ hTI,⟨x,y,k TO (by simp) _ hTO⟩,h1.at λo q=>k i1 (by simp) o q,h2.at λo q=>k i2 (by simp) o q⟩
 item:=by
  intro X hP hw hK hc i pins s σ H E I hf st hg
  subst hP hw hK
  obtain⟨hz,hTI,⟨x0,y0,hTO⟩,h1,h2⟩:=st
  obtain⟨xs,ys,x,y,hqx,hqy,hx,hy⟩:=hg
  obtain⟨its,rv,p,_⟩:=I.list hqx
  obtain⟨its2,rv2,p2,_⟩:=I.list hqy
  obtain⟨u,hu,ru⟩:=rv.get hx
  obtain⟨u2,hu2,ru2⟩:=rv2.get hy
  have hzl:z<s.heap.objs.size:=Heap.lt_size hz
  refine wpAny_pyNext_zip_item D hz hTI hTO h1 h2 p.isList p2.isList (x:=u) (y:=u2) (by simpa using hu) (by simpa using hu2) λh' z' TO' h1' h2' hT hsz hk=>?_
  refine⟨_,rfl,wpAny_letOwnedTupleGo_zip (s:={s with heap:=h'}) z' λh'' z'' sb=>?_⟩
  have hT2:h''.get? s.heap.objs.size=some {cls:=.type "tuple",data:=.seq #[u,u2]}:=(sb.2 _ (Nat.ne_of_gt hzl)).trans hT
  have new:ObjOk X.prog X.w (upd H s.heap.objs.size (.tup [x,y])) h'' s.heap.objs.size (.tup [x,y]) :=
   ⟨by show 2<=sizeLine;decide,[u,u2],.cons ru (.cons ru2 .nil),⟨_,hT2,rfl,_,rfl⟩⟩
  have I1:Inv X pins σ (upd H s.heap.objs.size (.tup [x,y])) {s with heap:=h''} :=
   I.turnedNew (t':=s.toks) (ch:=[z,TI,TO,i1,i2]) (λc o hb q=>(sb.2 c (λq'=>hb (by simp[q']))).trans (hk c o (λq'=>hb (by simp[q'])) (λq'=>hb (by simp[q'])) (λq'=>hb (by simp[q'])) (λq'=>hb (by simp[q'])) q)) hf (Nat.le_refl _) new
  refine⟨.ref s.heap.objs.size,_,I1,rfl,⟨_,x,y,rfl,I.hok.fresh (Nat.le_refl _),rfl,λl hl=>by rw[I.list_inj hl hqx];exact hx,λl hl=>by rw[I.list_inj hl hqy];exact hy⟩,⟨z'',?_,⟨u,u2,?_⟩,?_,?_⟩,λc hcm=>?_⟩
  ·exact(sb.2 _ D.TIz).trans (hk _ _ D.TIz D.TITO D.TIi1 D.TIi2 hTI)
  ·exact(sb.2 _ D.TOz).trans TO'
  ·exact h1'.at λo q=>(sb.2 _ D.i1z).trans q
  ·exact h2'.at λo q=>(sb.2 _ D.i2z).trans q
  ·have hlt:c<s.heap.objs.size:=by
    have e':c=z\/c=TI\/c=TO\/c=i1\/c=i2:=by simpa using hcm
    rcases e' with q | q | q | q | q
    ·rw[q];exact hzl
    ·rw[q];exact Heap.lt_size hTI
    ·rw[q];exact Heap.lt_size hTO
    ·rw[q];obtain⟨_,e1,_⟩:=h1;exact Heap.lt_size e1
    ·rw[q];obtain⟨_,e2,_⟩:=h2;exact Heap.lt_size e2
   rw[Zk (Nat.ne_of_lt hlt)]
   exact(hf c hcm).1
 done:=by
  intro X hP hw hK hc i pins s σ H E I hf st hg
  subst hP hw hK
  obtain⟨hz,hTI,⟨x0,y0,hTO⟩,h1,h2⟩:=st
  obtain⟨xs,ys,hqx,hqy,hend⟩:=hg
  obtain⟨its,rv,p,_⟩:=I.list hqx
  obtain⟨its2,rv2,p2,_⟩:=I.list hqy
  have l1:=rv.length
  have l2:=rv2.length
  have he:its.toArray[i]?=none\/its2.toArray[i]?=none:=by
   rcases hend with q | q
   ·exact .inl (by simp;omega)
   ·exact .inr (by simp;omega)
  exact wpAny_pyNext_zip_end (I.ok.hd hc) D hz hTI hTO h1 h2 p.isList p2.isList he λh' hk=>⟨rfl,I.turnedL (t':=s.toks) (ch:=[z,TI,TO,i1,i2]) (λc o hb q =>
   hk c o (λq'=>hb (by simp[q'])) (λq'=>hb (by simp[q'])) (λq'=>hb (by simp[q'])) (λq'=>hb (by simp[q'])) q) hf⟩
 self:=λA i s Q E st h=>wpAny_pyIter_zip st.1 h
noncomputable def iZip (K:PySem.W.Frag)(ta:TA):TI:=λσ H R=>ta σ H λvs H1=>∃a b xs ys,vs=[.ref a,.ref b]/\SqL K H1 a xs/\SqL K H1 b ys/\R (Itz K a b) H1
theorem Zih {X:Cx}{e e2:Expr}{ta:TA}{p pos tpos:Pos}{elts:List Expr}{kk:Nat}(hg:Gl X "zip")(hm:X.mg "zip"=none)(ha:PA X [e,e2] ta)
  (hs:starEach [e,e2] X.env=(false,eval e X.env)::starEach [e2] X.env:=by rfl) (hpl:(backTo pos (starEach [e2] X.env)).any (·.1)=false:=by rfl) :
  PI X (.Tuple elts kk tpos) (.Call (.Name "zip" p) [e,e2] [] pos) (iZip X.K ta):=by
 intro pins s σ H R I h
 refine Call_ (Td I hg hm Zer (PyProof.Rows.callWith_type1 (thn (ha pos pins s σ H _ I h) λus s1 ⟨vs,H1,I1,r1,q1⟩=>?_) hs hpl))
 obtain⟨a,b,xs,ys,ex,hqx,hqy,q⟩:=q1
 subst ex
 cases r1 with
 |cons r rr =>
  cases rr with
  |cons r' rr =>
   cases rr
   cases r
   cases r'
   obtain⟨its,rv,p1,_⟩:=I1.list hqx
   obtain⟨its2,rv2,p2,_⟩:=I1.list hqy
   have la:a<s1.heap.objs.size:=p1.lt
   have lb:b<s1.heap.objs.size:=p2.lt
   refine call_zip_2 p1.isList p2.isList λh' hz hTI hTO h1 h2 hsz hk=>wpAny_pyIter_zip hz ?_
   have I2:Inv X pins σ H1 {s1 with heap:=h'}:=I1.kept (t':=s1.toks) hk
   refine⟨s1.heap.objs.size+4,[s1.heap.objs.size+4,s1.heap.objs.size+2,s1.heap.objs.size+3,s1.heap.objs.size,s1.heap.objs.size+1],_,_,H1,rfl,I2,Zh6 (PySem.W.ktu_apart s1.heap.objs.size a b la lb),⟨hz,hTI,⟨_,_,hTO⟩,h1,h2⟩,λc hcm=>?_,q⟩
   have e':c=s1.heap.objs.size+4\/c=s1.heap.objs.size+2\/c=s1.heap.objs.size+3\/c=s1.heap.objs.size\/c=s1.heap.objs.size+1:=by simpa using hcm
   have hle:s1.heap.objs.size<=c:=by
    rcases e' with z | z | z | z | z
    ·rw[z];exact Nat.le_add_right _ _
    ·rw[z];exact Nat.le_add_right _ _
    ·rw[z];exact Nat.le_add_right _ _
    ·rw[z];exact Nat.le_refl _
    ·rw[z];exact Nat.le_add_right _ _
   exact I1.fpOk hle (I1.hok.fresh hle)
end L2
noncomputable section
namespace Bits
open PySem PyProof.Rows
end Bits
end
noncomputable section
namespace TL
open PySem PySem.Builtin PySem.Builtin.Str PySem.StrLaws
end TL
end
namespace L2
open PySem PySem.Spec PyProof.Rows
noncomputable section
variable {X:Cx}{pins:List (Addr×Obj)}{σ:St}{H:Hp}{s:Shared}{Q:VK}
end
noncomputable section
variable {X:Cx}
end
noncomputable section
variable {X:Cx}{o e:Expr}{to te:TE}
end
end L2
namespace L2
open PySem PySem.Spec PyProof.Rows
noncomputable section
variable {X:Cx}
end
end L2
namespace Att
open PySem PySem.W PySem.Calls PyProof.Rows
noncomputable section
variable {prog:Program}{w:World}{A:Around}{E:Value->Shared->Prop}{s:Shared}{K:Frag}
end
end Att
namespace L2
open PySem PySem.Spec PyProof.Rows
end L2
namespace L2
open PySem PySem.Spec PyProof.Rows
end L2
namespace L2
open PySem PySem.Spec PyProof.Rows
noncomputable def Tj (s:Stmt)(j:Nat):Stmt:=match s with
 |.ClassDef _ _ _ body _ _ _ _ _ _ _=>body.getD j (.Pass ⟨0,0,0,0⟩)
 |_=>.Pass ⟨0,0,0,0⟩
noncomputable def Tk (s:Stmt):Arguments:=match s with
 |.FunctionDef _ a _ _ _ _ _ _ _ _=>a
 |_=>{posonlyargs:=[],args:=[],vararg:=none,kwonlyargs:=[],kw_defaults:=[],kwarg:=none,defaults:=[]}
noncomputable def Uf (s:Stmt):List Stmt:=match s with
 |.FunctionDef _ _ b _ _ _ _ _ _ _=>b
 |_=>[]
noncomputable def Zf (s:Stmt):Scope:=match s with
 |.FunctionDef _ _ _ _ _ _ sc _ _ _=>sc
 |_=>{kind:=.function,names:=[],isGenerator:=false,isCoroutine:=false}
abbrev CX0:CXT:=λ_ _ _ _ _ _=>False
abbrev E0:XK:=λ_ _ _=>False
theorem Zh7 {X:Cx}:Z2v CX0 X E0:=λ_ _ _ _ _ _ _ h=>h.elim
structure Fun (K:PySem.W.Frag)(x qual:Str)(st:Stmt)(f:Addr)(fd:FuncData):Prop where
 ex:∃(oc:Value) (od:Option Addr) (kV doc pm:Value) (an:Option Addr) (cdv ct:Value) (osl:Array (Option Value)),
  fd=PySem.W.fnOf x qual (Tk st) (Uf st) (Zf st) .none kV doc pm an cdv ct/\K.lookup f=some ⟨oc,od,.func fd,osl⟩/\PySem.W.codeIn K cdv qual=true
 kp:PySem.W.keepIn K (.ref f)=true
noncomputable section
variable {P:Program}{w:World}{K:PySem.W.Frag}{mg:Str->Option Value}{base:Heap}
theorem Fun.ok {x qual:Str}{st:Stmt}{f:Addr}{fd:FuncData}{N ps:List Str}{k:Nat}{sp:Sp}(F:Fun K x qual st f fd)(S:FnScope N ps (Zf st))(len:∀vs H Q E,sp vs H Q E->vs.length=ps.length)
  (hbody:∀(cdv:Value) (A:Around) (outer:List Env) (s:Shared) (H:Hp) (vs:List V) (Q:VK) (E:XK),Room k (A.deeper (envOfC qual (Zf st) s.heap.objs.size f cdv))->sp vs H Q E->
   ∃t,PSs (cxOf CX0 P w K mg base N qual (Zf st) f cdv A outer s H E).nox (Uf st) t/\t {nx:=λ_ H'=>Q .non H',rt:=Q} (start N vs) H):FnOk P w K mg base CX0 (k+1) f fd ps sp:=by
 obtain⟨oc,od,kV,doc,pm,an,cdv,ct,osl,rfl,lk,hcd⟩:=F.ex
 refine Zlp lk hcd S len λA outer s H vs Q E hr hsp=>?_
 obtain⟨t,h,q⟩:=hbody cdv A outer s H vs Q E hr hsp
 exact⟨t,h.nox,q⟩
theorem Fun.binds {x qual:Str}{st:Stmt}{f:Addr}{fd:FuncData}{ps:List Str}(F:Fun K x qual st f fd)
  (h:∀(kV doc pm:Value) (an:Option Addr) (cdv ct:Value) (us:List Value),us.length=ps.length->bindArgs (PySem.W.fnOf x qual (Tk st) (Uf st) (Zf st) .none kV doc pm an cdv ct) ⟨us,[]⟩=pure (ps.zip us)):Binds K fd ps []:=by
 obtain⟨oc,od,kV,doc,pm,an,cdv,ct,osl,rfl,lk,hcd⟩:=F.ex
 exact .all (h kV doc pm an cdv ct)
theorem Zii {x qual:Str}{st:Stmt}{f:Addr}{oc:Value}{od an:Option Addr}{osl:Array (Option Value)}{kV doc pm cdv ct:Value}(l:K.lookup f=some ⟨oc,od,.func (PySem.W.fnOf x qual (Tk st) (Uf st) (Zf st) .none kV doc pm an cdv ct),osl⟩)
  (c:PySem.W.codeIn K cdv qual=true) (k:PySem.W.keepIn K (.ref f)=true):Fun K x qual st f (PySem.W.fnOf x qual (Tk st) (Uf st) (Zf st) .none kV doc pm an cdv ct):=⟨⟨oc,od,kV,doc,pm,an,cdv,ct,osl,rfl,l,c⟩,k⟩
end
theorem Z4d {A:Around}{k:Nat}(hr:Room k A):A.units+1<cLine:=Nat.lt_of_le_of_lt (Nat.add_le_add_left (by decide:1<=64) _) hr.units
noncomputable section
variable {X:Cx}
theorem pv (i:Nat){x:Str}{pos:Pos}(hN:X.N[i]?=some x:=by rfl)(hv:Vis X.env.scope x:=by first | exact Or.inl rfl | exact Or.inr (Or.inl rfl) | exact Or.inr (Or.inr rfl))(hd:(x==("__debug__":Str))=false:=by decide)
  (hcd:(x==("__classdict__":Str))=false:=by decide):PE X (.Name x pos) (tVar i):=Zkd hN hv hd hcd
theorem Zes:Rn X (.builtin "len") (λxs H Q=>∃a kvs,xs=[V.ref a]/\H a=some (.dK kvs)/\Q (.int kvs.length) H):=by
 intro pins s σ H xs us Q I r h
 obtain⟨a,kvs,rfl,ha,q⟩:=h
 obtain⟨u,rfl,ru⟩:=Zgz r
 cases ru
 exact Zlu I (.inl ha) λt s' I'=>⟨.int kvs.length,H,I',⟨t,rfl⟩,q⟩
end
theorem iteF {A B:Prop}(h:B):if false=true then A else B:=by
 rw[if_neg Bool.false_ne_true]
 exact h
theorem iteT {A B:Prop}(h:A):if true=true then A else B:=by
 rw[if_pos rfl]
 exact h
theorem ite2 {c A B:Prop}[Decidable c](h1:c->A)(h2:¬c->B):if c then A else B:=by
 by_cases h:c
 ·rw[if_pos h]
  exact h1 h
 ·rw[if_neg h]
  exact h2 h
noncomputable def Same (H H':Hp):Prop:=∀b o,H b=some o->H' b=some o
theorem Same.refl (H:Hp):Same H H:=λ_ _ h=>h
theorem Same.trans {H H1 H2:Hp}(a:Same H H1)(b:Same H1 H2):Same H H2:=λc o h=>b c o (a c o h)
theorem Same.free {H H':Hp}(e:Same H H'){l:Addr}(h:H' l=Option.none):H l=Option.none:=by
 cases q:H l with
 |none=>rfl
 |some o =>
  rw[e l o q]at h
  cases h
theorem Same.seq {K:PySem.W.Frag}{H H':Hp}{a:Addr}{xs:List V}(e:Same H H')(h:SqL K H a xs):SqL K H' a xs:=by
 rcases h with(h | ⟨o,h⟩) | h
 ·exact .inl (.inl (e _ _ h))
 ·exact .inl (.inr ⟨o,e _ _ h⟩)
 ·exact .inr h
noncomputable section
variable {κ:Type}[DecidableEq κ]
theorem Zjj {kvs:List (κ×V)}{k:κ}{v:V}(h:valV kvs k=some v):k∈kvs.map (·.1):=by
 have q:(kvs.any λkv=>decide (kv.1=k))=true:=by
  rw[Ue,h]
  all_goals rfl
 obtain⟨p,hp,e⟩:=List.any_eq_true.mp q
 exact List.mem_map.mpr ⟨p,hp,of_decide_eq_true e⟩
theorem Zet:∀{l:List κ} {k:κ},l.Nodup->¬k∈l->(l++[k]).Nodup
 |[],k,_,_=>by simp
 |a::r,k,h,hk=>by
  obtain⟨h1,h2⟩:=List.nodup_cons.mp h
  show(a::(r++[k])).Nodup
  refine List.nodup_cons.mpr ⟨λm=>?_,Zet h2 λm=>hk (List.mem_cons.mpr (Or.inr m))⟩
  rcases List.mem_append.mp m with q | q
  ·exact h1 q
  ·exact hk (List.mem_cons.mpr (Or.inl (List.mem_singleton.mp q).symm))
end
theorem Zeu {xs:List V}{z:Int}{j:Nat}{v:V}(e:z=(j:Int))(h:xs[j]?=some v):atI xs z=some v:=by
 rw[e]
 exact Ya h
theorem Same.made {H H1:Hp}{x dx C:Addr}(nx:H x=Option.none)(nd:H dx=Option.none)(k:∀b o,(upd (upd H dx (.own x)) x (.ins C dx [])) b=some o->b≠x->H1 b=some o):Same H H1:=λb o e =>
 k b o (by rw[Zk (Zm e nx),Zk (Zm e nd)];exact e) (Zm e nx)
end L2
end
noncomputable section
namespace L2
open PySem PySem.Spec PyProof.Rows
open PySem.W (WData Codec OpenSpec Well WellAll ReadsW ReadsAllW)
mutual
/-- x stands for the datum d,lists and tuples all the way -/
inductive Dw (K:PySem.W.Frag)(H:Hp):V->WData->Prop
 |non:Dw K H .non .none
 |bl (b:Bool):Dw K H (.bl b) (.bool b)
 |int (i:Int):Dw K H (.int i) (.int i)
 |str (x:Str):Dw K H (.str x) (.str x)
 |byt (b:Array UInt8):Dw K H (.byt b) (.bytes b.toList)
 |lst {a:Addr} {xs:List V} {ds:List WData}:SqL K H a xs->DwAll K H xs ds->Dw K H (.ref a) (.list ds)
 |tup {a:Addr} {xs:List V} {ds:List WData}:SqT K H a xs->DwAll K H xs ds->Dw K H (.ref a) (.tuple ds)
inductive DwAll (K:PySem.W.Frag)(H:Hp):List V->List WData->Prop
 |nil:DwAll K H [] []
 |cons {v:V} {vs:List V} {d:WData} {ds:List WData}:Dw K H v d->DwAll K H vs ds->DwAll K H (v::vs) (d::ds)
end
theorem Zev {K:PySem.W.Frag}{H:Hp}:∀ns:List Int,DwAll K H (ns.map V.int) (ns.map WData.int)
 |[]=>.nil
 |n::r=>.cons (.int n) (Zev r)
theorem Zew {K:PySem.W.Frag}{H:Hp}:∀(ns:List Int) (xs:List V),DwAll K H xs (ns.map WData.int)->xs=ns.map V.int
 |[],xs,h=>by
  cases h
  rfl
 |n::r,xs,h=>by
  cases h with
  |cons h1 h2 =>
   cases h1
   rw[Zew r _ h2] <;> rfl
noncomputable section
variable {P:Program}{w:World}{K:PySem.W.Frag}{H:Hp}{h:Heap}{R:PySem.W.WRecords}{cl:Str->Option Addr}
theorem Zkz {a:Addr}{xs:List V}(hok:HOk P w H h)(KX:K.In h)(q:SqL K H a xs):∃(its:List Value) (o:Obj) (n:Nat),Vals xs its/\h.get? a=some o/\o.cls=.type "list"/\o.data=.seq its.toArray n:=by
 rcases q with q | ⟨o,its,n,e,hc,_,hd,_,hv⟩
 ·obtain⟨_,its,n,hv,e⟩:=(show ObjOk P w H h a (.lst xs) from q.ok hok)
  exact⟨its,_,n,hv,e,rfl,rfl⟩
 ·exact⟨its.toList,o,n,hv,KX _ _ e,hc,by simp[hd]⟩
theorem Zl0 {a:Addr}{xs:List V}(hok:HOk P w H h)(KX:K.In h)(q:SqT K H a xs):∃(its:List Value) (o:Obj) (n:Nat),Vals xs its/\h.get? a=some o/\o.cls=.type "tuple"/\o.data=.seq its.toArray n:=by
 rcases q with q | ⟨o,its,n,e,hc,hd,_,hv⟩
 ·obtain⟨_,its,hv,o,e,hc,n,hd⟩:=(show ObjOk P w H h a (.tup xs) from q.ok hok)
  exact⟨its,o,n,hv,e,hc,hd⟩
 ·exact⟨its.toList,o,n,hv,KX _ _ e,hc,by simp[hd]⟩
mutual
theorem Dw.reads (hok:HOk P w H h)(KX:K.In h):∀(d:WData) (v:V) (u:Value),Dw K H v d->RelV v u->∃as,ReadsW R cl h u d as
 |.none,_,_,x,r=>by
  cases x
  cases r
  exact⟨_,ReadsW.none⟩
 |.bool b,_,_,x,r=>by
  cases x
  cases r
  exact⟨_,ReadsW.bool b⟩
 |.int i,_,_,x,r=>by
  cases x
  obtain⟨t,rfl⟩:=r
  exact⟨_,ReadsW.int i t⟩
 |.str s,_,_,x,r=>by
  cases x
  obtain⟨t,rfl⟩:=r
  exact⟨_,ReadsW.str s t⟩
 |.bytes b,_,_,x,r=>by
  cases x
  obtain⟨t,rfl⟩:=r
  exact⟨_,ReadsW.bytes _ t⟩
 |.list ds,_,_,x,r=>by
  cases x with
  |lst hs ha =>
   cases r
   obtain⟨its,o,n,rv,ho,hc,hd⟩:=Zkz hok KX hs
   obtain⟨as,hr⟩:=Dw.readsAll hok KX ds _ its ha rv
   exact⟨_,ReadsW.list ho hc hd hr⟩
 |.tuple ds,_,_,x,r=>by
  cases x with
  |tup hs ha =>
   cases r
   obtain⟨its,o,n,rv,ho,hc,hd⟩:=Zl0 hok KX hs
   obtain⟨as,hr⟩:=Dw.readsAll hok KX ds _ its ha rv
   exact⟨_,ReadsW.tuple ho hc hd hr⟩
 |.float _,_,_,x,_=>by cases x
 |.dict _,_,_,x,_=>by cases x
 |.bytearray _,_,_,x,_=>by cases x
 |.set _,_,_,x,_=>by cases x
 |.frozenset _,_,_,x,_=>by cases x
 |.obj _ _,_,_,x,_=>by cases x
theorem Dw.readsAll (hok:HOk P w H h)(KX:K.In h):∀(ds:List WData) (vs:List V) (us:List Value),DwAll K H vs ds->Vals vs us->∃as,ReadsAllW R cl h us ds as
 |[],_,_,x,r=>by
  cases x
  cases r
  exact⟨_,ReadsAllW.nil⟩
 |d::ds,_,_,x,r=>by
  cases x with
  |cons h1 h2 =>
   cases r with
   |cons r1 r2 =>
    obtain⟨as,q1⟩:=Dw.reads hok KX d _ _ h1 r1
    obtain⟨bs,q2⟩:=Dw.readsAll hok KX ds _ _ h2 r2
    exact⟨_,ReadsAllW.cons q1 q2⟩
end
end
mutual
/-- data that a codec tells -/
noncomputable def plW:WData->Bool
 |.none=>true
 |.bool _=>true
 |.int _=>true
 |.str _=>true
 |.bytes _=>true
 |.list xs=>plWs xs
 |.tuple xs=>plWs xs
 |_=>false
noncomputable def plWs:List WData->Bool
 |[]=>true
 |x::r=>plW x&&plWs r
end
theorem Zb7 {α:Type}{f:α->WData}(h:∀a,plW (f a)=true):∀l:List α,plWs (l.map f)=true
 |[]=>rfl
 |x::r=>by
  show(plW (f x)&&plWs (r.map f))=true
  rw[h x,Zb7 h r] <;> rfl
theorem Nr:∀(c:Codec) (a:c.denote),plW (c.enc a)=true
 |.unit,_=>rfl
 |.bool,_=>rfl
 |.int _ _,_=>rfl
 |.nat _ _,_=>rfl
 |.u8,_=>rfl
 |.bytes _ _,_=>rfl
 |.text _ _ _ _,_=>rfl
 |.list _ _ c,a=>Zb7 (λx=>Nr c x) a
 |.pair c d,a=>by
  show(plW (c.enc a.1)&&(plW (d.enc a.2)&&true))=true
  rw[Nr c a.1,Nr d a.2] <;> rfl
 |.triple c d e,a=>by
  show(plW (c.enc a.1)&&(plW (d.enc a.2.1)&&(plW (e.enc a.2.2)&&true)))=true
  rw[Nr c a.1,Nr d a.2.1,Nr e a.2.2] <;> rfl
 |.option c,none=>rfl
 |.option c,some x=>Nr c x
theorem Z6z:∀(cs:List Codec) (a:Codec.denoteAll cs),plWs (Codec.encAll cs a)=true
 |[],_=>rfl
 |c::cs,a=>by
  show(plW (c.enc a.1)&&plWs (Codec.encAll cs a.2))=true
  rw[Nr c a.1,Z6z cs a.2] <;> rfl
theorem On:∀{xs:List WData} {d:WData},d∈xs->d.weight<=WData.weightAll xs
 |[],d,h=>absurd h (by simp)
 |x::r,d,h=>by
  show d.weight<=x.weight+1+WData.weightAll r
  rcases List.mem_cons.mp h with e | m
  ·rw[e]
   omega
  ·have z:=On m
   omega
noncomputable def toV:Value->V
 |.none=>.non
 |.bool b=>.bl b
 |.int i _=>.int i
 |.str x _=>.str x
 |.bytes b _=>.byt b
 |.ref a=>.ref a
 |_=>.non
noncomputable def OkU (A:List Addr):Value->Prop
 |.none=>True
 |.bool _=>True
 |.int _ _=>True
 |.str _ _=>True
 |.bytes _ _=>True
 |.ref a=>a∈A
 |_=>False
theorem OkU.mono {A B:List Addr}(h:∀a∈A,a∈B):∀{u:Value},OkU A u->OkU B u:=λ{u} x=>by
 cases u with
 |ref a=>exact h a x
 |none=>trivial
 |bool b=>trivial
 |int i t=>trivial
 |str s t=>trivial
 |bytes b t=>trivial
 |_=>exact False.elim x
theorem Zh8 {A:List Addr}{u:Value}(x:OkU A u):RelV (toV u) u:=by
 cases u with
 |ref a=>rfl
 |none=>rfl
 |bool b=>rfl
 |int i t=>exact⟨t,rfl⟩
 |str s t=>exact⟨t,rfl⟩
 |bytes b t=>exact⟨t,rfl⟩
 |_=>exact False.elim x
theorem Sn {A:List Addr}:∀{vs:List Value},(∀u∈vs,OkU A u)->Vals (vs.map toV) vs
 |[],_=>.nil
 |u::r,h=>.cons (Zh8 (h u (List.mem_cons_self ..))) (Sn λx hx=>h x (List.mem_cons_of_mem _ hx))
noncomputable def ArgOb (h:Heap)(A:List Addr)(a:Addr):Prop:=∃vs:List Value,vs.length<=sizeLine/\(∀u∈vs,OkU A u)/\
 (h.get? a=some {cls:=.type "list",data:=.seq vs.toArray}\/h.get? a=some {cls:=.type "tuple",data:=.seq vs.toArray})
theorem ArgOb.mono {h:Heap}{A B:List Addr}{a:Addr}(k:∀a∈A,a∈B)(x:ArgOb h A a):ArgOb h B a:=by
 obtain⟨vs,h1,h2,h3⟩:=x
 exact⟨vs,h1,λu hu=>(h2 u hu).mono k,h3⟩
theorem Ug {P:Params}{h:Heap}:∀{vs:List Value} {ds:List WData},WellAll P h vs ds->vs.length=ds.length
 |_,_,.nil=>rfl
 |_,_,.cons _ b=>by
  show _+1=_+1
  rw[Ug b]
theorem Z7a {P:Params}{h:Heap}{v:Value}{ds:List WData}(x:Well P h v (.list ds)):∃(a:Addr) (vs:List Value),v=.ref a/\h.get? a=some {cls:=.type "list",data:=.seq vs.toArray}/\WellAll P h vs ds:=by
 cases x with
 |list ho hall=>exact⟨_,_,rfl,ho,hall⟩
theorem Z2y {P:Params}{h:Heap}{v:Value}{ds:List WData}(x:Well P h v (.tuple ds)):∃(a:Addr) (vs:List Value),v=.ref a/\h.get? a=some {cls:=.type "tuple",data:=.seq vs.toArray}/\WellAll P h vs ds:=by
 cases x with
 |tuple ho hall=>exact⟨_,_,rfl,ho,hall⟩
theorem Z7b {P:Params}{h:Heap}{us:List Value}{d:WData}{ds:List WData}(x:WellAll P h us (d::ds)):∃(v:Value) (vs:List Value),us=v::vs/\Well P h v d/\WellAll P h vs ds:=by
 cases x with
 |cons a b=>exact⟨_,_,rfl,a,b⟩
theorem Zex {n:Nat}(h:n<=1048576):n<=sizeLine:=Nat.le_trans h (by decide)
noncomputable section
variable {P:Params}{h:Heap}
mutual
theorem Zh9:∀(d:WData) (v:Value),Well P h v d->plW d=true->d.weight<=1048576->∃A:List Addr,OkU A v/\∀a∈A,ArgOb h A a
 |.none,_,x,_,_=>by
  cases x
  exact⟨[],trivial,λa m=>absurd m (by simp)⟩
 |.bool b,_,x,_,_=>by
  cases x
  exact⟨[],trivial,λa m=>absurd m (by simp)⟩
 |.int i,_,x,_,_=>by
  cases x
  exact⟨[],trivial,λa m=>absurd m (by simp)⟩
 |.str s,_,x,_,_=>by
  cases x
  exact⟨[],trivial,λa m=>absurd m (by simp)⟩
 |.bytes b,_,x,_,_=>by
  cases x
  exact⟨[],trivial,λa m=>absurd m (by simp)⟩
 |.list ds,_,x,p,z=>by
  obtain⟨a,vs,rfl,ho,hall⟩:=Z7a x
  have z2:WData.weightAll ds<=1048576:=z
  obtain⟨A,h1,h2⟩:=Jh ds _ hall p λd hd=>Nat.le_trans (On hd) z2
  have k:∀b∈A,b∈a::A:=λb hb=>List.mem_cons_of_mem _ hb
  refine⟨a::A,List.mem_cons_self ..,λb hb=>?_⟩
  rcases List.mem_cons.mp hb with e | m
  ·rw[e]
   exact⟨vs,Zex (by rw[Ug hall];exact Nat.le_trans (PySem.W.length_le_weightAllW ds) z2),λu hu=>(h1 u hu).mono k,.inl ho⟩
  ·exact(h2 b m).mono k
 |.tuple ds,_,x,p,z=>by
  obtain⟨a,vs,rfl,ho,hall⟩:=Z2y x
  have z2:WData.weightAll ds<=1048576:=z
  obtain⟨A,h1,h2⟩:=Jh ds _ hall p λd hd=>Nat.le_trans (On hd) z2
  have k:∀b∈A,b∈a::A:=λb hb=>List.mem_cons_of_mem _ hb
  refine⟨a::A,List.mem_cons_self ..,λb hb=>?_⟩
  rcases List.mem_cons.mp hb with e | m
  ·rw[e]
   exact⟨vs,Zex (by rw[Ug hall];exact Nat.le_trans (PySem.W.length_le_weightAllW ds) z2),λu hu=>(h1 u hu).mono k,.inr ho⟩
  ·exact(h2 b m).mono k
 |.float _,_,_,p,_=>Bool.noConfusion (show false=true from p)
 |.dict _,_,_,p,_=>Bool.noConfusion (show false=true from p)
 |.bytearray _,_,_,p,_=>Bool.noConfusion (show false=true from p)
 |.set _,_,_,p,_=>Bool.noConfusion (show false=true from p)
 |.frozenset _,_,_,p,_=>Bool.noConfusion (show false=true from p)
 |.obj _ _,_,_,p,_=>Bool.noConfusion (show false=true from p)
theorem Jh:∀(ds:List WData) (vs:List Value),WellAll P h vs ds->plWs ds=true->(∀d∈ds,d.weight<=1048576)->∃A:List Addr,(∀u∈vs,OkU A u)/\∀a∈A,ArgOb h A a
 |[],_,x,_,_=>by
  cases x
  exact⟨[],λu m=>absurd m (by simp),λa m=>absurd m (by simp)⟩
 |d::ds,_,x,p,z=>by
  obtain⟨v,vs,rfl,x1,x2⟩:=Z7b x
  have q:plW d=true/\plWs ds=true:=Bool.and_eq_true_iff.mp p
  obtain⟨A,a1,a2⟩:=Zh9 d v x1 q.1 (z d (List.mem_cons_self ..))
  obtain⟨B,b1,b2⟩:=Jh ds vs x2 q.2 λe he=>z e (List.mem_cons_of_mem _ he)
  have kA:∀b∈A,b∈A++B:=λb hb=>List.mem_append.mpr (.inl hb)
  have kB:∀b∈B,b∈A++B:=λb hb=>List.mem_append.mpr (.inr hb)
  refine⟨A++B,λu hu=>?_,λb hb=>?_⟩
  ·rcases List.mem_cons.mp hu with e | m
   ·rw[e]
    exact a1.mono kA
   ·exact(b1 u m).mono kB
  ·rcases List.mem_append.mp hb with m | m
   ·exact(a2 b m).mono kA
   ·exact(b2 b m).mono kB
end
end
noncomputable def hoOf (o:Obj):Option HO:=match o.data with
 |.seq vs _=>if(o.cls==Value.type "list")=true then some (.frz o (.lst (vs.toList.map toV))) else some (.frz o (.tup (vs.toList.map toV)))
 |_=>none
noncomputable def argH (K:PySem.W.Frag)(h:Heap)(A:List Addr):Hp:=λb=>if b∈A then(if(K.lookup b).isNone=true then(h.get? b).bind hoOf else none) else none
noncomputable def Zey (H:Hp):Prop:=∀b,H b=none\/∃o u,H b=some (.frz o u)
theorem Zb8 (vs:List Value):hoOf {cls:=.type "list",data:=.seq vs.toArray}=some (.frz {cls:=.type "list",data:=.seq vs.toArray} (.lst (vs.map toV))):=by
 show(if(Value.type "list"==Value.type "list")=true then some (HO.frz {cls:=.type "list",data:=.seq vs.toArray} (.lst (vs.toArray.toList.map toV))) else some (HO.frz {cls:=.type "list",data:=.seq vs.toArray} (.tup (vs.toArray.toList.map toV))))=_
 rw[if_pos (beq_self_eq_true _)]
theorem Zb9 (vs:List Value):hoOf {cls:=.type "tuple",data:=.seq vs.toArray}=some (.frz {cls:=.type "tuple",data:=.seq vs.toArray} (.tup (vs.map toV))):=by
 show(if(Value.type "tuple"==Value.type "list")=true then some (HO.frz {cls:=.type "tuple",data:=.seq vs.toArray} (.lst (vs.toArray.toList.map toV))) else some (HO.frz {cls:=.type "tuple",data:=.seq vs.toArray} (.tup (vs.toArray.toList.map toV))))=_
 rw[if_neg (by decide)]
noncomputable section
variable {P:Program}{w:World}{K:PySem.W.Frag}{h:Heap}{A:List Addr}
theorem Z4e {b:Addr}{o:Obj}(hb:b∈A)(hk:K.lookup b=none)(e:h.get? b=some o):argH K h A b=hoOf o:=by
 unfold argH
 rw[if_pos hb,hk,if_pos (show(none:Option Obj).isNone=true from rfl),e] <;> rfl
theorem Zjk {b:Addr}{u:HO}(q:argH K h A b=some u):b∈A/\K.lookup b=none:=by
 unfold argH at q
 by_cases hb:b∈A
 ·rw[if_pos hb]at q
  cases hk:K.lookup b with
  |none=>exact⟨hb,rfl⟩
  |some o =>
   rw[hk,if_neg (by simp)]at q
   cases q
 ·rw[if_neg hb]at q
  cases q
theorem Z4f (ar:∀a∈A,ArgOb h A a){b:Addr}{u:HO}(q:argH K h A b=some u):K.lookup b=none/\∃vs:List Value,vs.length<=sizeLine/\(∀u∈vs,OkU A u)/\
    ((h.get? b=some {cls:=.type "list",data:=.seq vs.toArray}/\u=.frz {cls:=.type "list",data:=.seq vs.toArray} (.lst (vs.map toV)))\/
     (h.get? b=some {cls:=.type "tuple",data:=.seq vs.toArray}/\u=.frz {cls:=.type "tuple",data:=.seq vs.toArray} (.tup (vs.map toV)))):=by
  obtain⟨hb,hk⟩:=Zjk q
  obtain⟨vs,h1,h2,h3⟩:=ar b hb
  refine⟨hk,vs,h1,h2,?_⟩
  rcases h3 with e | e
  · rw[Z4e hb hk e,Zb8]at q
    exact .inl ⟨e,(Option.some.inj q).symm⟩
  · rw[Z4e hb hk e,Zb9]at q
    exact .inr ⟨e,(Option.some.inj q).symm⟩
theorem Zez (ar:∀a∈A,ArgOb h A a):Zey (argH K h A):=λb=>by
 cases q:argH K h A b with
 |none=>exact .inl rfl
 |some u =>
  obtain⟨_,vs,_,_,⟨_,e⟩ | ⟨_,e⟩⟩:=Z4f ar q
  ·exact .inr ⟨_,_,by rw[e]⟩
  ·exact .inr ⟨_,_,by rw[e]⟩
theorem Zjl (ar:∀a∈A,ArgOb h A a):HOk P w (argH K h A) h:=λb u q=>by
 obtain⟨_,vs,h1,h2,⟨e,rfl⟩ | ⟨e,rfl⟩⟩:=Z4f ar q
 ·exact⟨e,by rw[List.length_map];exact h1,vs,_,Sn h2,e⟩
 ·exact⟨e,by rw[List.length_map];exact h1,vs,Sn h2,_,e,rfl,_,rfl⟩
theorem Z4g {c c':Value}{vs us:List Value}(e:(some {cls:=c,data:=.seq vs.toArray}:Option Obj)=some {cls:=c',data:=.seq us.toArray}):c=c'/\vs=us:=by
 have e1:=Option.some.inj e
 have e2:c=c':=congrArg Obj.cls e1
 have e3:Data.seq vs.toArray=Data.seq us.toArray:=congrArg Obj.data e1
 injection e3 with e4
 refine⟨e2,?_⟩
 have e5:=congrArg Array.toList e4
 simpa using e5
theorem argL (KX:K.In h)(ar:∀a∈A,ArgOb h A a){a:Addr}{vs:List Value}(ha:a∈A)(e:h.get? a=some {cls:=.type "list",data:=.seq vs.toArray}):(∀u∈vs,OkU A u)/\SqL K (argH K h A) a (vs.map toV):=by
 obtain⟨us,h1,h2,h3⟩:=ar a ha
 have hu:us=vs:=by
  rcases h3 with q | q
  ·rw[e]at q
   exact(Z4g q).2.symm
  ·rw[e]at q
   exact absurd (Value.type.inj (Z4g q).1) (by decide)
 subst hu
 refine⟨h2,?_⟩
 cases hk:K.lookup a with
 |none=>exact .inl (.inr ⟨_,by rw[Z4e ha hk e,Zb8]⟩)
 |some o =>
  have e2:=KX a o hk
  rw[e]at e2
  obtain rfl:=Option.some.inj e2
  exact .inr ⟨_,us.toArray,_,hk,rfl,rfl,rfl,by rw[List.size_toArray];exact h1,by simpa using Sn h2⟩
theorem argT (KX:K.In h)(ar:∀a∈A,ArgOb h A a){a:Addr}{vs:List Value}(ha:a∈A)(e:h.get? a=some {cls:=.type "tuple",data:=.seq vs.toArray}):(∀u∈vs,OkU A u)/\SqT K (argH K h A) a (vs.map toV):=by
 obtain⟨us,h1,h2,h3⟩:=ar a ha
 have hu:us=vs:=by
  rcases h3 with q | q
  ·rw[e]at q
   exact absurd (Value.type.inj (Z4g q).1) (by decide)
  ·rw[e]at q
   exact(Z4g q).2.symm
 subst hu
 refine⟨h2,?_⟩
 cases hk:K.lookup a with
 |none=>exact .inl (.inr ⟨_,by rw[Z4e ha hk e,Zb9]⟩)
 |some o =>
  have e2:=KX a o hk
  rw[e]at e2
  obtain rfl:=Option.some.inj e2
  exact .inr ⟨_,us.toArray,_,hk,rfl,rfl,by rw[List.size_toArray];exact h1,by simpa using Sn h2⟩
mutual
theorem Zl1 {Pm:Params}(KX:K.In h)(ar:∀a∈A,ArgOb h A a):∀(d:WData) (v:Value),Well Pm h v d->plW d=true->OkU A v->Dw K (argH K h A) (toV v) d
 |.none,_,x,_,_=>by
  cases x
  exact .non
 |.bool b,_,x,_,_=>by
  cases x
  exact .bl b
 |.int i,_,x,_,_=>by
  cases x
  exact .int i
 |.str s,_,x,_,_=>by
  cases x
  exact .str s
 |.bytes b,_,x,_,_=>by
  cases x
  have z:=Dw.byt (K:=K) (H:=argH K h A) b.toArray
  exact z
 |.list ds,_,x,p,hu=>by
  obtain⟨a,vs,rfl,ho,hall⟩:=Z7a x
  obtain⟨h2,hs⟩:=argL KX ar hu ho
  exact .lst hs (Zba KX ar ds _ hall p h2)
 |.tuple ds,_,x,p,hu=>by
  obtain⟨a,vs,rfl,ho,hall⟩:=Z2y x
  obtain⟨h2,hs⟩:=argT KX ar hu ho
  exact .tup hs (Zba KX ar ds _ hall p h2)
 |.float _,_,_,p,_=>Bool.noConfusion (show false=true from p)
 |.dict _,_,_,p,_=>Bool.noConfusion (show false=true from p)
 |.bytearray _,_,_,p,_=>Bool.noConfusion (show false=true from p)
 |.set _,_,_,p,_=>Bool.noConfusion (show false=true from p)
 |.frozenset _,_,_,p,_=>Bool.noConfusion (show false=true from p)
 |.obj _ _,_,_,p,_=>Bool.noConfusion (show false=true from p)
theorem Zba {Pm:Params}(KX:K.In h)(ar:∀a∈A,ArgOb h A a):∀(ds:List WData) (vs:List Value),WellAll Pm h vs ds->plWs ds=true->(∀u∈vs,OkU A u)->DwAll K (argH K h A) (vs.map toV) ds
 |[],_,x,_,_=>by
  cases x
  exact .nil
 |d::ds,_,x,p,hu=>by
  obtain⟨v,vs,rfl,x1,x2⟩:=Z7b x
  have q:plW d=true/\plWs ds=true:=Bool.and_eq_true_iff.mp p
  exact .cons (Zl1 KX ar d v x1 q.1 (hu _ (List.mem_cons_self ..))) (Zba KX ar ds vs x2 q.2 λu m=>hu u (List.mem_cons_of_mem _ m))
end
end
theorem Zf0 {P:Program}{w:World}{K:PySem.W.Frag}{mg mb:Str->Option Value}{CX:CXT}{k:Nat}{fa:Addr}{fd:FuncData}{ps:List Str}{sp:Sp}{s₁:Shared}{vals:List Value}{ds:List WData}{R:PySem.W.WRecords}{cl:Str->Option Addr}{d0:WData}
  (KX:K.In s₁.heap) (hns:s₁.heap.Ns mainGlobals mg) (hb:s₁.heap.Ns builtinsNs mb) (hbb:∀x:Str,x≠"__name__"->mb x=bootBuiltins x) (hlim:s₁.heap.NoLimit) (hg:s₁.gens=#[])
  (hwl:WellAll w.params s₁.heap vals ds) (hpl:plWs ds=true) (hwt:∀d∈ds,d.weight<=1048576) (hr:Room k callerA)
  (F:∀base:Heap,K.In base->base.Ns mainGlobals mg->FnOk P w K mg base CX k fa fd ps sp) (hbind:∀(s:Shared) (us:List Value),us.length=ps.length->BindsTo s fd ⟨us,[]⟩ (ps.zip us)) (hlen:ds.length=ps.length)
  (hsp:∀(H:Hp) (xs:List V),Zey H->DwAll K H xs ds->sp xs H (λv H'=>Dw K H' v d0) λ_ _ _=>False)
  (hCX:∀H e s',CX [] H s₁ (λ_ _ _=>False) e s'->False) :
  codeAny (model P w) callerA (.call (.ref fa) ⟨vals,[]⟩) (λr s'=>∃u as,r=.ok (.ret u)/\ReadsW R cl s'.heap u d0 as/\OldK s₁.heap s'.heap/\s'.os=s₁.os/\AllBare s'.gens) s₁:=by
 obtain⟨A,ho,ar⟩:=Jh ds vals hwl hpl hwt
 have hO:Zey (argH K s₁.heap A):=Zez ar
 have hok:HOk P w (argH K s₁.heap A) s₁.heap:=Zjl ar
 have hS:=Zba KX ar ds vals hwl hpl ho
 have hV:=Sn ho
 have hK:∀b u,argH K s₁.heap A b=some u->K.lookup b=none:=λb u q=>(Z4f ar q).1
 have noA:∀{b:Addr} {o:Obj} {es:Array DictEntry} {ep:Nat},s₁.heap.get? b=some o->o.data=.dict es ep->argH K s₁.heap A b=none:=λ{b o es ep} e d=>by
  cases q:argH K s₁.heap A b with
  |none=>rfl
  |some u =>
   obtain⟨_,vs,_,_,⟨e2,_⟩ | ⟨e2,_⟩⟩:=Z4f ar q
   ·rw[e2]at e
    cases e
    have d':Data.seq vs.toArray _=Data.dict es ep:=d
    cases d'
   ·rw[e2]at e
    cases e
    have d':Data.seq vs.toArray _=Data.dict es ep:=d
    cases d'
 generalize argH K s₁.heap A=H at hO hok hS hK noA
 have base_of:∀{b:Addr} {o:Obj},s₁.heap.get? b=some o->H b=none->(hidT s₁.heap H).get? b=some o:=λe n=>Zgv e n
 have nsK:∀{b:Addr} {m:Str->Option Value},s₁.heap.Ns b m->(hidT s₁.heap H).Ns b m:=λ{b m} ⟨o,es,ep,e,d,r⟩=>⟨o,es,ep,base_of e (noA e d),d,r⟩
 have nK:∀b o,K.lookup b=some o->H b=none:=λb o e=>by
  cases q:H b with
  |none=>rfl
  |some u =>
   rw[hK b u q]at e
   cases e
 have hKb:K.In (hidT s₁.heap H):=λb o e=>base_of (KX b o e) (nK b o e)
 have hM:Mod K mg (hidT s₁.heap H):=⟨hKb,nsK hns,⟨mb,nsK hb,hbb⟩,let ⟨mc,h1,h2⟩:=hlim;⟨mc,nsK h1,h2⟩⟩
 have e0:Env0 P w K mg (hidT s₁.heap H) callerA [] s₁ H:=⟨rfl,hM,λb o e=>Zj0 e,Nat.le_of_eq (Zdr _ _),trivial,λb hb=>absurd (show b∈([]:List Addr) from hb) (by simp),hok,.of_eq hg⟩
 have hl:vals.length=ps.length:=by rw[Ug hwl];exact hlen
 refine codeAny_mono ((F _ hKb (nsK hns)).run callerA [] s₁ H ⟨vals,[]⟩ vals (vals.map toV) _ _ hr e0 (hbind s₁ vals hl) hV (hsp H _ hO hS)) λr s' x=>?_
 cases r with
 |error e=>exact(hCX H e s' x).elim
 |ok fl =>
  cases fl with
  |next=>exact False.elim x
  |brk=>exact False.elim x
  |cont=>exact False.elim x
  |ret u =>
   obtain⟨v,H',os,bare,un,hok',r',q⟩:=x
   have kept:∀b o,s₁.heap.get? b=some o->s'.heap.get? b=some o:=λb o e=>by
    cases q2:H b with
    |none=>exact un.keep b o e q2 (by intro z;exact absurd (show b∈([]:List Addr) from z) (by simp)) (by simp)
    |some u2 =>
     rcases hO b with z | ⟨ob,u3,z⟩
     ·rw[q2]at z
      cases z
     ·have z2:=un.frzs b ob _ z
      obtain⟨e1,_⟩:=hok b _ z
      obtain⟨e2,_⟩:=hok' b _ z2
      rw[e]at e1
      cases e1
      exact e2
   have KX':K.In s'.heap:=λb o e=>kept b o (KX b o e)
   obtain⟨as,hrd⟩:=Dw.reads (R:=R) (cl:=cl) hok' KX' d0 v u q r'
   exact⟨u,as,rfl,hrd,OldK.of_keep kept,os,bare⟩
theorem Z1r {ds:List WData}(h:WData.layableAll ds=true):∀d∈ds,d.weight<=1048576:=λd hd =>
 (PySem.W.layableW_iff.mp (List.all_eq_true.mp h d hd)).2.2
theorem Z2z:∀(cs:List Codec) (a:Codec.denoteAll cs),(Codec.encAll cs a).length=cs.length
 |[],_=>rfl
 |c::cs,a=>by
  show(Codec.encAll cs a.2).length+1=cs.length+1
  rw[Z2z cs a.2]
theorem Zf1 {r:OpenSpec}{k:Nat}{q:Program}{loose:List Str}{XP:(Str->Option Value)->Heap->Prop}{YP:World->Heap->Prop}{d:DefRec}{K:Params->PySem.W.Frag}{CX:World->CXT}{ps:List Str}{sp:World->Sp}
  (hwell:r.wellSaid=true) (hdf:d.params.defaults=[]) (hlen:r.args.length=ps.length) (hr:Room k callerA)
  (hY:∀(w:World) (h:Heap),YP w h->(K w.params).In h)
  (F:∀(w:World) (mg:Str->Option Value) (fa:Addr) (h:Heap),YP w h->(K w.params).In h->h.Ns mainGlobals mg->mg d.name=some (.ref fa)->
   ∃fd:FuncData,(∀(s:Shared) (us:List Value),us.length=ps.length->BindsTo s fd ⟨us,[]⟩ (ps.zip us))/\
    ∀base:Heap,(K w.params).In base->base.Ns mainGlobals mg->FnOk r.prog w (K w.params) mg base (CX w) k fa fd ps (sp w))
  (hsp:∀(w:World) (H:Hp) (xs:List V) (a:Codec.denoteAll r.args),Zey H->Codec.withinAll r.args a=true->Codec.app r.args r.asked a=true->DwAll (K w.params) H xs (Codec.encAll r.args a)->
   sp w xs H (λv H'=>Dw (K w.params) H' v (r.ret.enc (Codec.app r.args r.f a))) λ_ _ _=>False)
  (hCX:∀(w:World) (H:Hp) (s:Shared) (e:Value) (s':Shared),CX w [] H s (λ_ _ _=>False) e s'->False) :
  PySem.W.WalkOS q loose XP YP r d [] (λf vs=>PySem.call f vs):=by
 intro w s_0 s₁ mg mb G Y fa o pm cd doc dV kV ho hd hcd hD hmg hg args vals as hpre hlay hrd hwl hlo
 obtain⟨a,e1,e2⟩:=PySem.W.os_pre_some hpre
 obtain⟨e3,hwi⟩:=Codec.encAll_of_decAll r.args args a e1
 subst e3
 have KX:=hY w _ Y
 obtain⟨fd,hb,hF⟩:=F w mg fa _ Y KX G.T.g hmg
 refine PySem.W.enter_call (codeAny_mono (Zf0 (R:=[]) (cl:=classAt s_0.heap) (d0:=r.ret.enc (Codec.app r.args r.f a)) KX G.T.g G.T.b G.T.builtins G.T.nolimit hg hwl (Z6z _ _) (Z1r hlay) hr hF hb (by rw[Z2z];exact hlen)
  (λH xs hO hS=>hsp w H xs a hO hwi e2 hS) λH e s'=>hCX w H s₁ e s') λr' s' hq=>?_)
 obtain⟨u,as',rfl,h1,h2,h3,h4⟩:=hq
 exact⟨.inl ⟨u,_,as',rfl,λ_=>rfl,h1,(OpenSpec.post_iff hwell hwi _ _).mpr rfl,λz=>Bool.noConfusion (show false=true from z)⟩,h2,h3,h4⟩
theorem Zco {r:OpenSpec}{k:Nat}{q:Program}{loose:List Str}{XP:(Str->Option Value)->Heap->Prop}{YP:World->Heap->Prop}{d:DefRec}{K:Params->PySem.W.Frag}{CX:CXT}{ps:List Str}{sp:PySem.W.Frag->Sp}
  (hwell:r.wellSaid=true) (hdf:d.params.defaults=[]) (hlen:r.args.length=ps.length) (hr:Room k callerA)
  (hY:∀(w:World) (h:Heap),YP w h->(K w.params).In h)
  (F:∀(w:World) (mg:Str->Option Value) (fa:Addr) (h:Heap),YP w h->(K w.params).In h->h.Ns mainGlobals mg->mg d.name=some (.ref fa)->
   ∃fd:FuncData,(∀(s:Shared) (us:List Value),us.length=ps.length->BindsTo s fd ⟨us,[]⟩ (ps.zip us))/\
    ∀base:Heap,(K w.params).In base->base.Ns mainGlobals mg->FnOk r.prog w (K w.params) mg base CX k fa fd ps (sp (K w.params)))
  (hsp:∀(K:PySem.W.Frag) (H:Hp) (xs:List V) (a:Codec.denoteAll r.args),Zey H->Codec.withinAll r.args a=true->Codec.app r.args r.asked a=true->DwAll K H xs (Codec.encAll r.args a)->
   sp K xs H (λv H'=>Dw K H' v (r.ret.enc (Codec.app r.args r.f a))) λ_ _ _=>False)
  (hCX:∀(H:Hp) (s:Shared) (e:Value) (s':Shared),CX [] H s (λ_ _ _=>False) e s'->False) :
  PySem.W.WalkOS q loose XP YP r d [] (λf vs=>PySem.call f vs) :=
 Zf1 (K:=K) (CX:=λ_=>CX) (sp:=λw=>sp (K w.params)) hwell hdf hlen hr hY F (λw H xs a h1 h2 h3 h4=>hsp (K w.params) H xs a h1 h2 h3 h4) λ_ H s e s'=>hCX H s e s'
end L2
end
noncomputable section
open List (length_map length_append length_cons length_take length_drop length_singleton length_range length_reverse length_nil getElem?_map getElem?_eq_getElem getElem?_append_left getElem?_append_right getElem?_eq_none mem_of_getElem? mem_iff_getElem? mem_cons_of_mem mem_cons_self mem_singleton mem_append mem_map getD_eq_getElem?_getD take_length map_append append_nil append_assoc filter_cons not_mem_nil nodup_cons nodup_nil isEmpty_iff getElem?_replicate length_replicate)
namespace Sl
open Vawctb
noncomputable def Srt (l:Ages):Prop:=l.Pairwise (λa b=>a.1<b.1)
theorem Srt.nil:Srt []:=List.Pairwise.nil
theorem Srt.tail {z:Nat×Nat}{l:Ages}(h:Srt (z::l)):Srt l:=(List.pairwise_cons.mp h).2
theorem Srt.head {z:Nat×Nat}{l:Ages}(h:Srt (z::l)):∀y∈l,z.1<y.1:=(List.pairwise_cons.mp h).1
theorem Zf2 (x:Nat):ageIn [] x=none:=rfl
theorem Zp (z:Nat×Nat)(l:Ages)(x:Nat):ageIn (z::l) x=if z.1=x then some z.2 else ageIn l x:=by
 unfold ageIn
 rw[List.find?_cons]
 by_cases h:z.1=x
 ·rw[if_pos h,show(z.1==x)=true from beq_iff_eq.mpr h]
  rfl
 ·rw[if_neg h,show(z.1==x)=false from beq_eq_false_iff_ne.mpr h]
theorem Yz {x a:Nat}:∀{l:Ages},ageIn l x=some a->(x,a)∈l
 |[],h=>by cases h
 |z::l,h=>by
  rw[Zp]at h
  by_cases e:z.1=x
  ·rw[if_pos e]at h
   cases h
   subst e
   exact mem_cons_self
  ·rw[if_neg e]at h
   exact mem_cons_of_mem _ (Yz h)
theorem Wt {x:Nat}:∀{l:Ages},(∀z∈l,z.1≠x)->ageIn l x=none
 |[],_=>rfl
 |z::l,h=>by
  rw[Zp,if_neg (h z mem_cons_self)]
  exact Wt λy hy=>h y (mem_cons_of_mem _ hy)
theorem Z0a {x a:Nat}:∀{l:Ages},Srt l->(x,a)∈l->ageIn l x=some a
 |[],_,h=>by cases h
 |z::l,hs,h=>by
  rw[Zp]
  rcases List.mem_cons.mp h with e | h
  ·subst e
   rw[if_pos rfl]
  ·have:=hs.head _ h
   rw[if_neg (by simp at this;omega)]
   exact Z0a hs.tail h
theorem Z9z:∀{l m:Ages},Srt l->Srt m->(∀x,ageIn l x=ageIn m x)->l=m
 |[],[],_,_,_=>rfl
 |[],z::m,_,_,h=>by
  have:=h z.1
  rw[Zp,if_pos rfl]at this
  cases this
 |z::l,[],_,_,h=>by
  have:=h z.1
  rw[Zp,if_pos rfl]at this
  cases this
 |a::l,b::m,hl,hm,h=>by
  have ha:=h a.1
  have hb:=h b.1
  rw[Zp,if_pos rfl,Zp]at ha
  rw[Zp,Zp,if_pos rfl]at hb
  have e:a.1=b.1:=by
   by_cases e:b.1=a.1
   ·exact e.symm
   ·rw[if_neg e]at ha
    rw[if_neg (λq=>e q.symm)]at hb
    have h1:=hm.head _ (Yz ha.symm)
    have h2:=hl.head _ (Yz hb)
    simp at h1 h2
    omega
  rw[if_pos e.symm]at ha
  have e2:a.2=b.2:=Option.some.inj ha
  have e3:a=b:=Prod.ext e e2
  subst e3
  congr 1
  refine Z9z hl.tail hm.tail λx=>?_
  have hx:=h x
  rw[Zp,Zp]at hx
  by_cases q:a.1=x
  ·rw[Wt λz hz=>by have:=hl.head z hz;omega,Wt λz hz=>by have:=hm.head z hz;omega]
  ·rwa [if_neg q,if_neg q]at hx
theorem Wi (x a y:Nat):∀(l:Ages),ageIn (putAge x a l) y=if x=y then some a else ageIn l y
 |[]=>by
  show ageIn [(x,a)] y=_
  rw[Zp]
 |z::l=>by
  unfold putAge
  by_cases h1:x<z.1
  ·rw[if_pos h1,Zp]
  ·rw[if_neg h1]
   by_cases h2:x=z.1
   ·rw[if_pos h2,Zp,Zp]
    by_cases h3:x=y
    ·rw[if_pos h3,if_pos h3]
    ·rw[if_neg h3,if_neg h3,if_neg (by omega)]
   ·rw[if_neg h2,Zp,Wi x a y l,Zp]
    by_cases h3:x=y
    ·rw[if_pos h3,if_pos h3,if_neg (by omega)]
    ·rw[if_neg h3,if_neg h3]
theorem Zf3 {x a:Nat}{w:Nat×Nat}:∀{l:Ages},w∈putAge x a l->w=(x,a)\/w∈l
 |[],h=>by
  rcases List.mem_cons.mp h with e | h
  ·exact .inl e
  ·cases h
 |z::l,h=>by
  unfold putAge at h
  by_cases h1:x<z.1
  ·rw[if_pos h1]at h
   exact List.mem_cons.mp h
  ·rw[if_neg h1]at h
   by_cases h2:x=z.1
   ·rw[if_pos h2]at h
    rcases List.mem_cons.mp h with e | h
    ·exact .inl e
    ·exact .inr (mem_cons_of_mem _ h)
   ·rw[if_neg h2]at h
    rcases List.mem_cons.mp h with e | h
    ·exact .inr (e▸mem_cons_self)
    ·rcases Zf3 h with e | h
     ·exact .inl e
     ·exact .inr (mem_cons_of_mem _ h)
theorem Z4h {x a:Nat}:∀{l:Ages},Srt l->Srt (putAge x a l)
 |[],_=>List.pairwise_cons.mpr ⟨λ_ h=>(nomatch h),.nil⟩
 |z::l,hs=>by
  unfold putAge
  by_cases h1:x<z.1
  ·rw[if_pos h1]
   refine List.pairwise_cons.mpr ⟨λw hw=>?_,hs⟩
   rcases List.mem_cons.mp hw with e | hw
   ·subst e
    exact h1
   ·have:=hs.head w hw
    show x<w.1
    omega
  ·rw[if_neg h1]
   by_cases h2:x=z.1
   ·rw[if_pos h2]
    refine List.pairwise_cons.mpr ⟨λw hw=>?_,hs.tail⟩
    have:=hs.head w hw
    show x<w.1
    omega
   ·rw[if_neg h2]
    refine List.pairwise_cons.mpr ⟨λw hw=>?_,Z4h hs.tail⟩
    rcases Zf3 hw with e | hw
    ·subst e
     show z.1<x
     omega
    ·exact hs.head w hw
noncomputable def Xy (f:Nat->Nat->Option Nat)(l:Ages):Ages:=l.filterMap λz=>(f z.1 z.2).map λa=>(z.1,a)
theorem Z0b {f:Nat->Nat->Option Nat}{l:Ages}{w:Nat×Nat}(h:w∈Xy f l):∃a,(w.1,a)∈l/\f w.1 a=some w.2:=by
 obtain⟨z,hz,e⟩:=List.mem_filterMap.mp h
 cases q:f z.1 z.2 with
 |none =>
  rw[q]at e
  cases e
 |some a =>
  rw[q]at e
  cases e
  exact⟨z.2,hz,q⟩
theorem Nt (f:Nat->Nat->Option Nat)(z:Nat×Nat)(l:Ages):Xy f (z::l)=match f z.1 z.2 with
  |none=>Xy f l
  |some a=>(z.1,a)::Xy f l:=by
 unfold Xy
 rw[List.filterMap_cons]
 cases f z.1 z.2 <;> rfl
theorem Z4i {f:Nat->Nat->Option Nat}:∀{l:Ages},Srt l->Srt (Xy f l)
 |[],_=>.nil
 |z::l,hs=>by
  rw[Nt]
  cases f z.1 z.2 with
  |none=>exact Z4i hs.tail
  |some a =>
   refine List.pairwise_cons.mpr ⟨λw hw=>?_,Z4i hs.tail⟩
   obtain⟨b,hb,_⟩:=Z0b hw
   have:=hs.head (w.1,b) hb
   exact this
theorem Wx (f:Nat->Nat->Option Nat)(y:Nat):∀{l:Ages},Srt l->ageIn (Xy f l) y=(ageIn l y).bind (f y)
 |[],_=>rfl
 |z::l,hs=>by
  rw[Nt,Zp]
  by_cases e:z.1=y
  ·rw[if_pos e]
   subst e
   have hn:ageIn (Xy f l) z.1=none:=by
    refine Wt λw hw=>?_
    obtain⟨b,hb,_⟩:=Z0b hw
    have:=hs.head _ hb
    simp at this
    omega
   show _=f z.1 z.2
   cases q:f z.1 z.2 with
   |none=>exact hn
   |some a =>
    show ageIn ((z.1,a)::Xy f l) z.1=some a
    rw[Zp,if_pos rfl]
  ·rw[if_neg e,<-Wx f y hs.tail]
   cases f z.1 z.2 with
   |none=>rfl
   |some a =>
    show ageIn ((z.1,a)::Xy f l) y=_
    rw[Zp,if_neg e]
noncomputable def Xq (sh:Shape)(x:Nat)(p:Nat->Bool)(y a:Nat):Option Nat :=
 if y % sh.sets==x % sh.sets&&y != x&&p a then(if a+1<room sh (x % sh.sets) then some (a+1) else none) else some a
theorem Z4j (sh:Shape)(x:Nat)(p:Nat->Bool)(l:Ages):older sh x p l=Xy (Xq sh x p) l:=by
 unfold older Xy
 congr 1
 funext z
 unfold Xq
 split
 ·split <;> rfl
 ·rfl
theorem Tl (a b:Bounds):(joinBounds a b).sure=Xy (λy s=>(ageIn b.sure y).map λt=>max s t) a.sure:=by
 show a.sure.filterMap _=a.sure.filterMap _
 congr 1
 funext z
 show Option.map _ (ageIn b.sure z.1)=Option.map _ (Option.map _ (ageIn b.sure z.1))
 cases ageIn b.sure z.1 <;> rfl
noncomputable def minO:Option Nat->Option Nat->Option Nat
 |some s,some t=>some (min s t)
 |some s,none=>some s
 |none,some t=>some t
 |none,none=>none
noncomputable def Rg (l:Ages)(z:Nat×Nat):Ages:=match ageIn l z.1 with
 |some s=>putAge z.1 (min s z.2) l
 |none=>putAge z.1 z.2 l
theorem Z7c (l:Ages)(z:Nat×Nat):Rg l z=putAge z.1 (match ageIn l z.1 with
  |some s=>min s z.2
  |none=>z.2) l:=by
 unfold Rg
 cases ageIn l z.1 <;> rfl
theorem Z7d (l:Ages)(z:Nat×Nat)(y:Nat):ageIn (Rg l z) y=if z.1=y then minO (ageIn l y) (some z.2) else ageIn l y:=by
 rw[Z7c,Wi]
 by_cases e:z.1=y
 ·rw[if_pos e,if_pos e,e]
  cases ageIn l y <;> rfl
 ·rw[if_neg e,if_neg e]
theorem Zcp {l:Ages}(h:Srt l)(z:Nat×Nat):Srt (Rg l z):=by
 rw[Z7c]
 exact Z4h h
theorem Uh (a b:Bounds):(joinBounds a b).maybe=b.maybe.foldl Rg a.maybe:=rfl
theorem Z0c:∀(l:Ages) {m:Ages},Srt m->Srt (l.foldl Rg m)
 |[],_,h=>h
 |z::l,_,h=>Z0c l (Zcp h z)
theorem Pg (o:Option Nat):minO o none=o:=by cases o <;> rfl
theorem Wr (y:Nat):∀{l:Ages} (m:Ages),Srt l->ageIn (l.foldl Rg m) y=minO (ageIn m y) (ageIn l y)
 |[],m,_=>by
  show ageIn m y=_
  rw[Zf2,Pg]
 |z::l,m,hs=>by
  show ageIn (l.foldl Rg (Rg m z)) y=_
  rw[Wr y (Rg m z) hs.tail,Z7d,Zp]
  by_cases e:z.1=y
  ·rw[if_pos e,if_pos e,Wt (l:=l) λw hw=>by have:=hs.head w hw;omega,Pg]
  ·rw[if_neg e,if_neg e]
abbrev Rm (sh:Shape)(y:Nat):Nat:=room sh (y % sh.sets)
structure GoodA (sh:Shape)(l:Ages):Prop where
 srt:Srt l
 lt:∀y a,ageIn l y=some a->a<Rm sh y/\y<32
structure GoodB (sh:Shape)(b:Bounds):Prop where
 sure:GoodA sh b.sure
 maybe:GoodA sh b.maybe
noncomputable def val (sh:Shape)(l:Ages)(y:Nat):Nat:=(ageIn l y).getD (Rm sh y)
theorem Ye {sh:Shape}{l:Ages}{y a:Nat}(h:ageIn l y=some a):val sh l y=a:=by unfold val;rw[h];rfl
theorem Yj {sh:Shape}{l:Ages}{y:Nat}(h:ageIn l y=none):val sh l y=Rm sh y:=by unfold val;rw[h];rfl
theorem GoodA.le {sh:Shape}{l:Ages}(h:GoodA sh l)(y:Nat):val sh l y<=Rm sh y:=by
 cases q:ageIn l y with
 |none=>rw[Yj q];exact Nat.le_refl _
 |some a =>
  rw[Ye q]
  exact Nat.le_of_lt (h.lt y a q).1
theorem GoodA.lt_iff {sh:Shape}{l:Ages}(h:GoodA sh l)(y:Nat):val sh l y<Rm sh y↔(ageIn l y).isSome=true:=by
 cases q:ageIn l y with
 |none=>rw[Yj q];simp
 |some a =>
  rw[Ye q]
  simp[(h.lt y a q).1]
theorem GoodA.big {sh:Shape}{l:Ages}(h:GoodA sh l){y:Nat}(hy:32<=y):val sh l y=Rm sh y:=by
 cases q:ageIn l y with
 |none=>exact Yj q
 |some a=>exact absurd (h.lt y a q).2 (by omega)
theorem GoodA.ext {sh:Shape}{l m:Ages}(hl:GoodA sh l)(hm:GoodA sh m)(h:∀y,val sh l y=val sh m y):l=m:=by
 refine Z9z hl.srt hm.srt λy=>?_
 have e:=h y
 cases p:ageIn l y with
 |none =>
  rw[Yj p]at e
  cases q:ageIn m y with
  |none=>rfl
  |some b =>
   rw[Ye q]at e
   have:=(hm.lt y b q).1
   omega
 |some a =>
  rw[Ye p]at e
  have:=(hl.lt y a p).1
  cases q:ageIn m y with
  |none =>
   rw[Yj q]at e
   omega
  |some b =>
   rw[Ye q]at e
   rw[e]
structure Le (sh:Shape)(b c:Bounds):Prop where
 sure:∀y,val sh b.sure y<=val sh c.sure y
 maybe:∀y,val sh c.maybe y<=val sh b.maybe y
theorem Le.refl {sh:Shape}(b:Bounds):Le sh b b:=⟨λ_=>Nat.le_refl _,λ_=>Nat.le_refl _⟩
theorem Le.trans {sh:Shape}{a b c:Bounds}(h:Le sh a b)(k:Le sh b c):Le sh a c:=⟨λy=>Nat.le_trans (h.sure y) (k.sure y),λy=>Nat.le_trans (k.maybe y) (h.maybe y)⟩
theorem Le.anti {sh:Shape}{a b:Bounds}(ga:GoodB sh a)(gb:GoodB sh b)(h:Le sh a b)(k:Le sh b a):a=b:=by
 obtain⟨s,m⟩:=a
 obtain⟨s',m'⟩:=b
 have e1:s=s':=ga.sure.ext gb.sure λy=>Nat.le_antisymm (h.sure y) (k.sure y)
 have e2:m=m':=ga.maybe.ext gb.maybe λy=>Nat.le_antisymm (k.maybe y) (h.maybe y)
 rw[e1,e2]
noncomputable def Fits (sh:Shape)(b:Bounds):Prop:=∀y,val sh b.maybe y<=val sh b.sure y
theorem Xa {sh:Shape}{l:Ages}(h:GoodA sh l)(x:Nat)(p:Nat->Bool):GoodA sh (older sh x p l):=by
 rw[Z4j]
 refine⟨Z4i h.srt,λy a e=>?_⟩
 rw[Wx _ _ h.srt]at e
 cases q:ageIn l y with
 |none =>
  rw[q]at e
  cases e
 |some b =>
  rw[q]at e
  have e':Xq sh x p y b=some a:=e
  have:=h.lt y b q
  unfold Xq at e'
  split at e'
  ·rename_i hc
   have hm:y % sh.sets=x % sh.sets:=by
    simp at hc
    exact hc.1.1
   split at e'
   ·rename_i hr
    cases e'
    refine⟨?_,this.2⟩
    show b+1<room sh (y % sh.sets)
    rw[hm]
    exact hr
   ·cases e'
  ·cases e'
   exact this
theorem Xz {sh:Shape}{l:Ages}(h:GoodA sh l){x a:Nat}(hx:x<32)(ha:0<Rm sh x->a<Rm sh x):GoodA sh (placed sh x a l):=by
 unfold placed
 split
 ·rename_i hr
  refine⟨Z4h h.srt,λy b e=>?_⟩
  rw[Wi]at e
  split at e
  ·rename_i hxy
   cases e
   subst hxy
   exact⟨ha hr,hx⟩
  ·exact h.lt y b e
 ·exact h
theorem Wu {sh:Shape}{l:Ages}(h:GoodA sh l)(x a y:Nat):val sh (placed sh x a l) y=if x=y then(if 0<Rm sh x then a else 0) else val sh l y:=by
 unfold placed
 split
 ·rename_i hr
  unfold val
  rw[Wi]
  by_cases e:x=y
  ·rw[if_pos e,if_pos e]
   rfl
  ·rw[if_neg e,if_neg e]
 ·rename_i hr
  by_cases e:x=y
  ·rw[if_pos e]
   have:=h.le y
   have hr':¬0<Rm sh x:=hr
   subst e
   omega
  ·rw[if_neg e]
noncomputable def up (r a:Nat):Nat:=min (a+1) r
theorem Z0d {sh:Shape}{l:Ages}(h:GoodA sh l)(x:Nat)(p:Nat->Bool)(y:Nat) :
  val sh (older sh x p l) y=if y % sh.sets=x % sh.sets/\y≠x/\p (val sh l y)=true then up (Rm sh y) (val sh l y) else val sh l y:=by
 have hv:val sh (older sh x p l) y=((ageIn l y).bind (Xq sh x p y)).getD (Rm sh y):=by
  unfold val
  rw[Z4j,Wx _ _ h.srt]
 rw[hv]
 cases q:ageIn l y with
 |none =>
  rw[Yj q]
  show Rm sh y=_
  split
  ·show Rm sh y=min (Rm sh y+1) (Rm sh y)
   omega
  ·rfl
 |some a =>
  rw[Ye q]
  show(Xq sh x p y a).getD (Rm sh y)=_
  have hl:=(h.lt y a q).1
  unfold Xq
  by_cases hc:y % sh.sets=x % sh.sets/\y≠x/\p a=true
  ·rw[if_pos hc,if_pos (by simp[hc.1,hc.2.1,hc.2.2])]
   have e:room sh (x % sh.sets)=Rm sh y:=by rw[<-hc.1]
   rw[e]
   show(if a+1<Rm sh y then some (a+1) else none).getD (Rm sh y)=min (a+1) (Rm sh y)
   split
   ·show a+1=_
    omega
   ·show Rm sh y=_
    omega
  ·rw[if_neg hc,if_neg (by
    intro z
    simp only[Bool.and_eq_true,beq_iff_eq,bne_iff_ne]at z
    exact hc ⟨z.1.1,z.1.2,z.2⟩)]
   rfl
theorem Oo {sh:Shape}{b:Bounds}(h:GoodB sh b){x:Nat}(hx:x<32):GoodB sh (touchBounds sh b x):=by
 unfold touchBounds
 split
 ·exact h
 ·split
  ·exact⟨Xz (Xa h.sure _ _) hx id,Xz (Xa h.maybe _ _) hx id⟩
  ·split
   ·exact h
   ·split
    ·exact⟨Xz (Xa h.sure _ _) hx id,Xz (Xa h.maybe _ _) hx id⟩
    ·exact⟨Xz (Xa h.sure _ _) hx λh0=>by show room sh (x % sh.sets)-1<room sh (x % sh.sets);have h1:0<room sh (x % sh.sets):=h0;omega,Xz h.maybe hx id⟩
theorem Ru {sh:Shape}{b:Bounds}(h:GoodB sh b){x:Nat}(hl:isLocked sh x=false)(hr:sh.oldest=false)(y:Nat) :
  val sh (touchBounds sh b x).sure y=if x=y then 0 else if y % sh.sets=x % sh.sets/\val sh b.sure y<val sh b.sure x then val sh b.sure y+1 else val sh b.sure y:=by
 unfold touchBounds
 rw[if_neg (by rw[hl];exact Bool.false_ne_true),if_pos (by rw[hr];rfl)]
 show val sh (placed sh x 0 _) y=_
 rw[Wu (Xa h.sure _ _)]
 by_cases e:x=y
 ·rw[if_pos e,if_pos e]
  split <;> rfl
 ·rw[if_neg e,if_neg e,Z0d h.sure]
  have hy:=h.sure.le y
  have hx:=h.sure.le x
  by_cases hm:y % sh.sets=x % sh.sets
  ·have er:Rm sh y=Rm sh x:=by show room sh _=room sh _;rw[hm]
   cases q:ageIn b.sure x with
   |none =>
    rw[if_pos ⟨hm,λz=>e z.symm,rfl⟩,Yj q]
    unfold up
    split <;> omega
   |some a =>
    rw[Ye q]
    rw[Ye q]at hx
    show(if y % sh.sets=x % sh.sets/\y≠x/\decide (val sh b.sure y<a)=true then _ else _)=_
    by_cases ha:val sh b.sure y<a
    ·rw[if_pos ⟨hm,λz=>e z.symm,decide_eq_true ha⟩,if_pos ⟨hm,ha⟩]
     unfold up
     omega
    ·rw[if_neg (λz=>ha (of_decide_eq_true z.2.2)),if_neg (λz=>ha z.2)]
  ·rw[if_neg (λz=>hm z.1),if_neg (λz=>hm z.1)]
theorem Tm {sh:Shape}{b:Bounds}(h:GoodB sh b){x:Nat}(hl:isLocked sh x=false)(hr:sh.oldest=false)(y:Nat) :
  val sh (touchBounds sh b x).maybe y=if x=y then 0 else if y % sh.sets=x % sh.sets/\val sh b.maybe y<=val sh b.maybe x then up (Rm sh y) (val sh b.maybe y) else val sh b.maybe y:=by
 unfold touchBounds
 rw[if_neg (by rw[hl];exact Bool.false_ne_true),if_pos (by rw[hr];rfl)]
 show val sh (placed sh x 0 _) y=_
 rw[Wu (Xa h.maybe _ _)]
 by_cases e:x=y
 ·rw[if_pos e,if_pos e]
  split <;> rfl
 ·rw[if_neg e,if_neg e,Z0d h.maybe]
  have hy:=h.maybe.le y
  by_cases hm:y % sh.sets=x % sh.sets
  ·have er:Rm sh y=Rm sh x:=by show room sh _=room sh _;rw[hm]
   cases q:ageIn b.maybe x with
   |none =>
    rw[if_pos ⟨hm,λz=>e z.symm,rfl⟩,Yj q,if_pos ⟨hm,by omega⟩]
   |some a =>
    rw[Ye q]
    show(if y % sh.sets=x % sh.sets/\y≠x/\decide (val sh b.maybe y<=a)=true then _ else _)=_
    by_cases ha:val sh b.maybe y<=a
    ·rw[if_pos ⟨hm,λz=>e z.symm,decide_eq_true ha⟩,if_pos ⟨hm,ha⟩]
    ·rw[if_neg (λz=>ha (of_decide_eq_true z.2.2)),if_neg (λz=>ha z.2)]
  ·rw[if_neg (λz=>hm z.1),if_neg (λz=>hm z.1)]
theorem Rv {sh:Shape}{b:Bounds}(h:GoodB sh b){x:Nat}(hr:sh.oldest=true)(hs:val sh b.sure x<Rm sh x):touchBounds sh b x=b:=by
 unfold touchBounds
 split
 ·rfl
 ·rw[if_neg (by rw[hr];exact Bool.false_ne_true),if_pos ((h.sure.lt_iff x).mp hs)]
theorem Op {sh:Shape}{l:Ages}(h:GoodA sh l)(x y:Nat):val sh (older sh x (λ_=>true) l) y=if y % sh.sets=x % sh.sets/\y≠x then up (Rm sh y) (val sh l y) else val sh l y:=by
 rw[Z0d h]
 by_cases q:y % sh.sets=x % sh.sets/\y≠x
 ·rw[if_pos q,if_pos ⟨q.1,q.2,rfl⟩]
 ·rw[if_neg q,if_neg λz=>q ⟨z.1,z.2.1⟩]
theorem Wy {sh:Shape}{b:Bounds}(h:GoodB sh b){x:Nat}(hl:isLocked sh x=false)(hr:sh.oldest=true)(hs:val sh b.sure x=Rm sh x)(y:Nat) :
  val sh (touchBounds sh b x).sure y=if x=y then(if val sh b.maybe x=Rm sh x then 0 else Rm sh x-1) else if y % sh.sets=x % sh.sets then up (Rm sh y) (val sh b.sure y) else val sh b.sure y:=by
 have hn:(ageIn b.sure x).isSome=false:=by
  cases q:(ageIn b.sure x).isSome with
  |false=>rfl
  |true=>have:=(h.sure.lt_iff x).mpr q;omega
 unfold touchBounds
 rw[if_neg (by rw[hl];exact Bool.false_ne_true),if_neg (by rw[hr];exact Bool.false_ne_true),if_neg (by rw[hn];exact Bool.false_ne_true)]
 have hmx:=h.maybe.le x
 cases q:ageIn b.maybe x with
 |none =>
  show val sh (placed sh x 0 _) y=_
  rw[Wu (Xa h.sure _ _),Op h.sure,Yj q,if_pos (rfl:Rm sh x=Rm sh x)]
  by_cases e:x=y
  ·rw[if_pos e,if_pos e]
   split <;> rfl
  ·rw[if_neg e,if_neg e]
   by_cases hm:y % sh.sets=x % sh.sets
   ·rw[if_pos hm,if_pos ⟨hm,λz=>e z.symm⟩]
   ·rw[if_neg hm,if_neg λz=>hm z.1]
 |some a =>
  show val sh (placed sh x (room sh (x % sh.sets)-1) _) y=_
  have ha:=(h.maybe.lt x a q).1
  rw[Wu (Xa h.sure _ _),Op h.sure,Ye q,if_neg (show ¬a=Rm sh x by omega)]
  by_cases e:x=y
  ·rw[if_pos e,if_pos e,if_pos (by omega)]
  ·rw[if_neg e,if_neg e]
   by_cases hm:y % sh.sets=x % sh.sets
   ·rw[if_pos hm,if_pos ⟨hm,λz=>e z.symm⟩]
   ·rw[if_neg hm,if_neg λz=>hm z.1]
theorem Wj {sh:Shape}{b:Bounds}(h:GoodB sh b){x:Nat}(hl:isLocked sh x=false)(hr:sh.oldest=true)(hs:val sh b.sure x=Rm sh x)(y:Nat) :
  val sh (touchBounds sh b x).maybe y=if x=y then 0 else if y % sh.sets=x % sh.sets/\val sh b.maybe x=Rm sh x then up (Rm sh y) (val sh b.maybe y) else val sh b.maybe y:=by
 have hn:(ageIn b.sure x).isSome=false:=by
  cases q:(ageIn b.sure x).isSome with
  |false=>rfl
  |true=>have:=(h.sure.lt_iff x).mpr q;omega
 unfold touchBounds
 rw[if_neg (by rw[hl];exact Bool.false_ne_true),if_neg (by rw[hr];exact Bool.false_ne_true),if_neg (by rw[hn];exact Bool.false_ne_true)]
 cases q:ageIn b.maybe x with
 |none =>
  show val sh (placed sh x 0 _) y=_
  rw[Wu (Xa h.maybe _ _),Op h.maybe,Yj q]
  by_cases e:x=y
  ·rw[if_pos e,if_pos e]
   split <;> rfl
  ·rw[if_neg e,if_neg e]
   by_cases hm:y % sh.sets=x % sh.sets
   ·rw[if_pos ⟨hm,λz=>e z.symm⟩,if_pos ⟨hm,rfl⟩]
   ·rw[if_neg (λz=>hm z.1),if_neg λz=>hm z.1]
 |some a =>
  show val sh (placed sh x 0 b.maybe) y=_
  have ha:=(h.maybe.lt x a q).1
  rw[Wu h.maybe,Ye q]
  by_cases e:x=y
  ·rw[if_pos e,if_pos e]
   split <;> rfl
  ·rw[if_neg e,if_neg e,if_neg (λz=>by omega)]
theorem Zm0 {r a b:Nat}(h:a<=b):up r a<=up r b:=by unfold up;omega
theorem Zm1 {r a:Nat}(h:a<=r):a<=up r a:=by unfold up;omega
theorem Zcq {sh:Shape}{b c:Bounds}(gb:GoodB sh b)(gc:GoodB sh c)(hf:sh.oldest=true->Fits sh b)(h:Le sh b c)(x:Nat):Le sh (touchBounds sh b x) (touchBounds sh c x):=by
 cases hl:isLocked sh x with
 |true =>
  have e:∀d:Bounds,touchBounds sh d x=d:=λd=>by unfold touchBounds;rw[if_pos hl]
  rw[e,e]
  exact h
 |false =>
  cases hr:sh.oldest with
  |false =>
   refine⟨λy=>?_,λy=>?_⟩
   ·rw[Ru gb hl hr,Ru gc hl hr]
    have h1:=h.sure y
    have h2:=h.sure x
    by_cases e:x=y
    ·rw[if_pos e,if_pos e]
     exact Nat.le_refl _
    ·rw[if_neg e,if_neg e]
     split <;> split <;> omega
   ·rw[Tm gb hl hr,Tm gc hl hr]
    have h1:=h.maybe y
    have h2:=h.maybe x
    have h3:=gb.maybe.le y
    by_cases e:x=y
    ·rw[if_pos e,if_pos e]
     exact Nat.le_refl _
    ·rw[if_neg e,if_neg e]
     unfold up
     split <;> split <;> omega
  |true =>
   have hF:=hf hr
   by_cases sb:val sh b.sure x<Rm sh x
   ·rw[Rv gb hr sb]
    by_cases sc:val sh c.sure x<Rm sh x
    ·rw[Rv gc hr sc]
     exact h
    ·have sc':val sh c.sure x=Rm sh x:=Nat.le_antisymm (gc.sure.le x) (Nat.le_of_not_lt sc)
     have hmx:val sh c.maybe x<Rm sh x:=Nat.lt_of_le_of_lt (Nat.le_trans (h.maybe x) (hF x)) sb
     refine⟨λy=>?_,λy=>?_⟩
     ·rw[Wy gc hl hr sc']
      have h1:=h.sure y
      have h3:=gc.sure.le y
      by_cases e:x=y
      ·subst e
       rw[if_pos rfl,if_neg (by omega)]
       omega
      ·rw[if_neg e]
       split
       ·exact Nat.le_trans h1 (Zm1 h3)
       ·exact h1
     ·rw[Wj gc hl hr sc']
      by_cases e:x=y
      ·rw[if_pos e]
       exact Nat.zero_le _
      ·rw[if_neg e,if_neg (λz=>by omega)]
       exact h.maybe y
   ·have sb':val sh b.sure x=Rm sh x:=Nat.le_antisymm (gb.sure.le x) (Nat.le_of_not_lt sb)
    have sc':val sh c.sure x=Rm sh x:=Nat.le_antisymm (gc.sure.le x) (by have:=h.sure x;omega)
    have h2:=h.maybe x
    have h4:=gb.maybe.le x
    refine⟨λy=>?_,λy=>?_⟩
    ·rw[Wy gb hl hr sb',Wy gc hl hr sc']
     have h1:=h.sure y
     by_cases e:x=y
     ·rw[if_pos e,if_pos e]
      split <;> split <;> omega
     ·rw[if_neg e,if_neg e]
      split
      ·exact Zm0 h1
      ·exact h1
    ·rw[Wj gb hl hr sb',Wj gc hl hr sc']
     have h1:=h.maybe y
     have h3:=gb.maybe.le y
     by_cases e:x=y
     ·rw[if_pos e,if_pos e]
      exact Nat.le_refl _
     ·rw[if_neg e,if_neg e]
      unfold up
      split <;> split <;> omega
theorem Zcr {sh:Shape}{b:Bounds}(gb:GoodB sh b)(hr:sh.oldest=true)(hF:Fits sh b)(x:Nat):Fits sh (touchBounds sh b x):=by
 cases hl:isLocked sh x with
 |true =>
  have e:touchBounds sh b x=b:=by unfold touchBounds;rw[if_pos hl]
  rw[e]
  exact hF
 |false =>
  by_cases sb:val sh b.sure x<Rm sh x
  ·rw[Rv gb hr sb]
   exact hF
  ·have sb':val sh b.sure x=Rm sh x:=Nat.le_antisymm (gb.sure.le x) (Nat.le_of_not_lt sb)
   intro y
   rw[Wy gb hl hr sb',Wj gb hl hr sb']
   have h1:=hF y
   have h3:=gb.sure.le y
   by_cases e:x=y
   ·rw[if_pos e]
    exact Nat.zero_le _
   ·rw[if_neg e,if_neg e]
    unfold up
    split <;> split <;> omega
theorem Zf4 {sh:Shape}{a b:Bounds}(ga:GoodB sh a)(gb:GoodB sh b):GoodB sh (joinBounds a b):=by
 refine⟨?_,?_⟩
 ·rw[Tl]
  refine⟨Z4i ga.sure.srt,λy s e=>?_⟩
  rw[Wx _ _ ga.sure.srt]at e
  cases p:ageIn a.sure y with
  |none =>
   rw[p]at e
   cases e
  |some u =>
   rw[p]at e
   have e':(ageIn b.sure y).map (λt=>max u t)=some s:=e
   cases q:ageIn b.sure y with
   |none =>
    rw[q]at e'
    cases e'
   |some t =>
    rw[q]at e'
    cases e'
    have h1:=ga.sure.lt y u p
    have h2:=gb.sure.lt y t q
    exact⟨by show max u t<Rm sh y;omega,h1.2⟩
 ·rw[Uh]
  refine⟨Z0c _ ga.maybe.srt,λy s e=>?_⟩
  rw[Wr _ _ gb.maybe.srt]at e
  cases p:ageIn a.maybe y with
  |none =>
   rw[p]at e
   cases q:ageIn b.maybe y with
   |none =>
    rw[q]at e
    cases e
   |some t =>
    rw[q]at e
    exact gb.maybe.lt y s (q.trans e)
  |some u =>
   rw[p]at e
   have h1:=ga.maybe.lt y u p
   cases q:ageIn b.maybe y with
   |none =>
    rw[q]at e
    exact ga.maybe.lt y s (p.trans e)
   |some t =>
    rw[q]at e
    cases e
    have h2:=gb.maybe.lt y t q
    exact⟨by omega,h1.2⟩
theorem Ph {sh:Shape}{a b:Bounds}(ga:GoodB sh a)(gb:GoodB sh b)(y:Nat):val sh (joinBounds a b).sure y=max (val sh a.sure y) (val sh b.sure y):=by
 have e:ageIn (joinBounds a b).sure y=(ageIn a.sure y).bind λs=>(ageIn b.sure y).map λt=>max s t:=by rw[Tl,Wx _ _ ga.sure.srt]
 have ha:=ga.sure.le y
 have hb:=gb.sure.le y
 cases p:ageIn a.sure y with
 |none =>
  rw[p]at e
  rw[Yj e,Yj p]
  omega
 |some u =>
  rw[p]at e
  cases q:ageIn b.sure y with
  |none =>
   rw[q]at e
   rw[Yj e,Yj q]
   omega
  |some t =>
   rw[q]at e
   rw[Ye e,Ye p,Ye q]
theorem So {sh:Shape}{a b:Bounds}(ga:GoodB sh a)(gb:GoodB sh b)(y:Nat):val sh (joinBounds a b).maybe y=min (val sh a.maybe y) (val sh b.maybe y):=by
 have e:ageIn (joinBounds a b).maybe y=minO (ageIn a.maybe y) (ageIn b.maybe y):=by rw[Uh,Wr _ _ gb.maybe.srt]
 have ha:=ga.maybe.le y
 have hb:=gb.maybe.le y
 cases p:ageIn a.maybe y with
 |none =>
  rw[p]at e
  cases q:ageIn b.maybe y with
  |none =>
   rw[q]at e
   rw[Yj e,Yj p,Yj q]
   omega
  |some t =>
   rw[q]at e
   rw[Ye e,Yj p,Ye q]
   rw[Ye q]at hb
   omega
 |some u =>
  rw[p]at e
  cases q:ageIn b.maybe y with
  |none =>
   rw[q]at e
   rw[Ye e,Ye p,Yj q]
   rw[Ye p]at ha
   omega
  |some t =>
   rw[q]at e
   rw[Ye e,Ye p,Ye q]
theorem Z7e {sh:Shape}{a b:Bounds}(ga:GoodB sh a)(gb:GoodB sh b):Le sh a (joinBounds a b):=⟨λy=>by rw[Ph ga gb];omega,λy=>by rw[So ga gb];omega⟩
theorem Z4k {sh:Shape}{a b:Bounds}(ga:GoodB sh a)(gb:GoodB sh b):Le sh b (joinBounds a b):=⟨λy=>by rw[Ph ga gb];omega,λy=>by rw[So ga gb];omega⟩
theorem Zjm {sh:Shape}{a b c:Bounds}(ga:GoodB sh a)(gb:GoodB sh b)(h:Le sh a c)(k:Le sh b c):Le sh (joinBounds a b) c :=
 ⟨λy=>by rw[Ph ga gb];have:=h.sure y;have:=k.sure y;omega,λy=>by rw[So ga gb];have:=h.maybe y;have:=k.maybe y;omega⟩
theorem Zf5 {sh:Shape}{a b:Bounds}(ga:GoodB sh a)(gb:GoodB sh b)(ha:Fits sh a)(hb:Fits sh b):Fits sh (joinBounds a b):=λy=>by
 rw[Ph ga gb,So ga gb]
 have:=ha y
 have:=hb y
 omega
structure Ok (sh:Shape)(b:Bounds):Prop where
 good:GoodB sh b
 fits:sh.oldest=true->Fits sh b
theorem Ji {sh:Shape}{b:Bounds}(h:Ok sh b){x:Nat}(hx:x<32):Ok sh (touchBounds sh b x):=⟨Oo h.good hx,λhr=>Zcr h.good hr (h.fits hr) x⟩
theorem Za0 {sh:Shape}{a b:Bounds}(ha:Ok sh a)(hb:Ok sh b):Ok sh (joinBounds a b):=⟨Zf4 ha.good hb.good,λhr=>Zf5 ha.good hb.good (ha.fits hr) (hb.fits hr)⟩
theorem Zf6 {sh:Shape}:∀(r:List Bounds) {b:Bounds},Ok sh b->(∀c∈r,Ok sh c)->Ok sh (r.foldl joinBounds b)
 |[],_,h,_=>h
 |c::r,_,h,k=>Zf6 r (Za0 h (k c mem_cons_self)) λd hd=>k d (mem_cons_of_mem _ hd)
theorem Zf7 {sh:Shape}:∀(r:List Bounds) {b:Bounds},Ok sh b->(∀c∈r,Ok sh c)->Le sh b (r.foldl joinBounds b)/\∀c∈r,Le sh c (r.foldl joinBounds b)
 |[],b,_,_=>⟨Le.refl b,λ_ h=>nomatch h⟩
 |c::r,b,h,k=>by
  have hc:=k c mem_cons_self
  obtain⟨i1,i2⟩:=Zf7 r (Za0 h hc) λd hd=>k d (mem_cons_of_mem _ hd)
  refine⟨(Z7e h.good hc.good).trans i1,λd hd=>?_⟩
  rcases List.mem_cons.mp hd with e | hd
  ·subst e
   exact(Z4k h.good hc.good).trans i1
  ·exact i2 d hd
theorem Zf8 {sh:Shape}{u:Bounds}:∀(r:List Bounds) {b:Bounds},Ok sh b->(∀c∈r,Ok sh c)->Le sh b u->(∀c∈r,Le sh c u)->Le sh (r.foldl joinBounds b) u
 |[],_,_,_,h,_=>h
 |c::r,_,hb,k,h,l=>Zf8 r (Za0 hb (k c mem_cons_self)) (λd hd=>k d (mem_cons_of_mem _ hd)) (Zjm hb.good (k c mem_cons_self).good h (l c mem_cons_self)) λd hd=>l d (mem_cons_of_mem _ hd)
noncomputable def OkO (sh:Shape)(o:Option Bounds):Prop:=∀b,o=some b->Ok sh b
noncomputable def LeO (sh:Shape)(o p:Option Bounds):Prop:=∀b,o=some b->∃c,p=some c/\Le sh b c
theorem LeO.refl {sh:Shape}(o:Option Bounds):LeO sh o o:=λb e=>⟨b,e,Le.refl b⟩
theorem Zbb {sh:Shape}{l:List Bounds}(h:∀b∈l,Ok sh b):OkO sh (joinAll l):=λb e=>by
 cases l with
 |nil=>cases e
 |cons a r =>
  have e':some (r.foldl joinBounds a)=some b:=e
  cases e'
  exact Zf6 r (h a mem_cons_self) λd hd=>h d (mem_cons_of_mem _ hd)
theorem Zf9 {sh:Shape}{l:List Bounds}(h:∀b∈l,Ok sh b){b:Bounds}(hb:b∈l):∃c,joinAll l=some c/\Le sh b c:=by
 cases l with
 |nil=>cases hb
 |cons a r =>
  refine⟨r.foldl joinBounds a,rfl,?_⟩
  obtain⟨i1,i2⟩:=Zf7 r (h a mem_cons_self) λd hd=>h d (mem_cons_of_mem _ hd)
  rcases List.mem_cons.mp hb with e | hb
  ·subst e
   exact i1
  ·exact i2 b hb
theorem Zbc {sh:Shape}{l m:List Bounds}(hl:∀b∈l,Ok sh b)(hm:∀b∈m,Ok sh b)(h:∀b∈l,∃c∈m,Le sh b c):LeO sh (joinAll l) (joinAll m):=λb e=>by
 cases l with
 |nil=>cases e
 |cons a r =>
  have e':some (r.foldl joinBounds a)=some b:=e
  cases e'
  obtain⟨c,hc,h1⟩:=h a mem_cons_self
  obtain⟨u,hu,h2⟩:=Zf9 hm hc
  refine⟨u,hu,Zf8 r (hl a mem_cons_self) (λd hd=>hl d (mem_cons_of_mem _ hd)) (h1.trans h2) λd hd=>?_⟩
  obtain⟨c',hc',h3⟩:=h d (mem_cons_of_mem _ hd)
  obtain⟨u',hu',h4⟩:=Zf9 hm hc'
  have:u=u':=Option.some.inj (hu.symm.trans hu')
  subst this
  exact h3.trans h4
noncomputable def Mi (g:Graph):Prop:=∀(v x:Nat),x∈linesAt g v->x<32
theorem Z0e {sh:Shape}{g:Graph}(hg:Mi g){b:Bounds}(h:Ok sh b)(v:Nat):Ok sh (behind sh g v b):=by
 unfold behind
 cases e:joinAll ((linesAt g v).map (touchBounds sh b)) with
 |none=>exact h
 |some c =>
  refine Zbb (λd hd=>?_) c e
  obtain⟨x,hx,rfl⟩:=mem_map.mp hd
  exact Ji h (hg v x hx)
theorem Za1 {sh:Shape}{g:Graph}(hg:Mi g){b c:Bounds}(hb:Ok sh b)(hc:Ok sh c)(h:Le sh b c)(v:Nat):Le sh (behind sh g v b) (behind sh g v c):=by
 have hB:∀d∈(linesAt g v).map (touchBounds sh b),Ok sh d:=λd hd=>by
  obtain⟨x,hx,rfl⟩:=mem_map.mp hd
  exact Ji hb (hg v x hx)
 have hC:∀d∈(linesAt g v).map (touchBounds sh c),Ok sh d:=λd hd=>by
  obtain⟨x,hx,rfl⟩:=mem_map.mp hd
  exact Ji hc (hg v x hx)
 have m:=Zbc hB hC λd hd=>by
  obtain⟨x,hx,rfl⟩:=mem_map.mp hd
  exact⟨_,mem_map.mpr ⟨x,hx,rfl⟩,Zcq hb.good hc.good hb.fits h x⟩
 unfold behind
 cases e:joinAll ((linesAt g v).map (touchBounds sh b)) with
 |none =>
  cases hl:linesAt g v with
  |nil=>exact h
  |cons x r =>
   rw[hl]at e
   cases e
 |some d =>
  obtain⟨d',e',l⟩:=m d e
  rw[e']
  exact l
theorem Z0f {sh:Shape}{first:Bounds}(hf:Ok sh first){v:Nat}{b:Bounds}(h:b∈(if v=0 then [first] else [])):Ok sh b:=by
 split at h
 ·rcases List.mem_cons.mp h with e | h
  ·subst e
   exact hf
  ·cases h
 ·cases h
noncomputable def en (t:Table)(v:Nat):Option Bounds:=(t[v]?).bind λb=>b
theorem Pi (sh:Shape)(g:Graph)(first:Bounds)(t:Table)(v:Nat):en (round sh g first t) v=if v<g.nodes.length then
  joinAll ((if v=0 then [first] else [])++(prevOf g v).filterMap λu=>(en t u).map (behind sh g u)) else none:=by
 unfold en round
 rw[getElem?_map]
 by_cases h:v<g.nodes.length
 ·rw[List.getElem?_range h,if_pos h]
  rfl
 ·rw[getElem?_eq_none (by rw[length_range];omega),if_neg h]
  rfl
theorem Z4l (g:Graph)(first:Bounds)(v:Nat):en (firstTable g first) v=if v<g.nodes.length/\v=0 then some first else none:=by
 unfold en firstTable
 rw[getElem?_map]
 by_cases h:v<g.nodes.length
 ·rw[List.getElem?_range h]
  show(if v=0 then some first else none)=_
  by_cases h0:v=0
  ·rw[if_pos h0,if_pos ⟨h,h0⟩]
  ·rw[if_neg h0,if_neg λz=>h0 z.2]
 ·rw[getElem?_eq_none (by rw[length_range];omega),if_neg λz=>h z.1]
  rfl
structure OkT (sh:Shape)(g:Graph)(t:Table):Prop where
 len:t.length=g.nodes.length
 ok:∀v,OkO sh (en t v)
noncomputable def LeT (sh:Shape)(t u:Table):Prop:=∀v,LeO sh (en t v) (en u v)
theorem Sq {sh:Shape}{g:Graph}(hg:Mi g){first:Bounds}(hf:Ok sh first){t:Table}(h:OkT sh g t){v:Nat}{b:Bounds}
  (hb:b∈(if v=0 then [first] else [])++(prevOf g v).filterMap λu=>(en t u).map (behind sh g u)):Ok sh b:=by
 rcases mem_append.mp hb with hb | hb
 ·exact Z0f hf hb
 ·obtain⟨u,_,e⟩:=List.mem_filterMap.mp hb
  cases q:en t u with
  |none =>
   rw[q]at e
   cases e
  |some c =>
   rw[q]at e
   cases e
   exact Z0e hg (h.ok u c q) u
theorem Z7f (sh:Shape)(g:Graph)(first:Bounds)(t:Table):(round sh g first t).length=g.nodes.length:=by
 unfold round
 rw[length_map,length_range]
theorem Zbd {sh:Shape}{g:Graph}(hg:Mi g){first:Bounds}(hf:Ok sh first){t:Table}(h:OkT sh g t):OkT sh g (round sh g first t):=by
 refine⟨Z7f _ _ _ _,λv=>?_⟩
 rw[Pi]
 split
 ·exact Zbb λb hb=>Sq hg hf h hb
 ·exact λb e=>nomatch e
theorem Zcs {sh:Shape}{g:Graph}(hg:Mi g){first:Bounds}(hf:Ok sh first){t u:Table}(ht:OkT sh g t)(hu:OkT sh g u)(h:LeT sh t u):LeT sh (round sh g first t) (round sh g first u):=λv=>by
 rw[Pi,Pi]
 split
 ·refine Zbc (λb hb=>Sq hg hf ht hb) (λb hb=>Sq hg hf hu hb) λb hb=>?_
  rcases mem_append.mp hb with hb | hb
  ·exact⟨b,List.mem_append_left _ hb,Le.refl b⟩
  ·obtain⟨w,hw,e⟩:=List.mem_filterMap.mp hb
   cases q:en t w with
   |none =>
    rw[q]at e
    cases e
   |some c =>
    rw[q]at e
    cases e
    obtain⟨d,hd,l⟩:=h w c q
    exact⟨behind sh g w d,List.mem_append_right _ (List.mem_filterMap.mpr ⟨w,hw,by rw[hd];rfl⟩),Za1 hg (ht.ok w c q) (hu.ok w d hd) l w⟩
 ·exact LeO.refl _
theorem Z0g {sh:Shape}{g:Graph}{first:Bounds}(hf:Ok sh first):OkT sh g (firstTable g first):=by
 refine⟨by unfold firstTable;rw[length_map,length_range],λv=>?_⟩
 rw[Z4l]
 split
 ·rintro b e
  cases e
  exact hf
 ·exact λb e=>nomatch e
theorem Zha {sh:Shape}{g:Graph}(hg:Mi g){first:Bounds}(hf:Ok sh first):LeT sh (firstTable g first) (round sh g first (firstTable g first)):=λv=>by
 rw[Z4l,Pi]
 by_cases h:v<g.nodes.length/\v=0
 ·rw[if_pos h,if_pos h.1]
  rintro b e
  cases e
  exact Zf9 (λb hb=>Sq hg hf (Z0g hf) hb) (List.mem_append_left _ (by rw[if_pos h.2];exact mem_cons_self))
 ·rw[if_neg h]
  exact λb e=>nomatch e
noncomputable def Oq (f:Nat->Nat):Nat->Nat
 |0=>0
 |n+1=>Oq f n+f n
theorem Z4m {f g:Nat->Nat}(h:∀i,f i<=g i):∀n,Oq f n<=Oq g n
 |0=>Nat.le_refl _
 |n+1=>Nat.add_le_add (Z4m h n) (h n)
theorem Z4n {f g:Nat->Nat}(h:∀i,f i<=g i){k:Nat}(hk:f k<g k):∀n,k<n->Oq f n<Oq g n
 |0,q=>absurd q (Nat.not_lt_zero _)
 |n+1,q=>by
  show Oq f n+f n<Oq g n+g n
  have h1:=Z4m h n
  have h2:=h n
  by_cases e:k=n
  ·subst e
   omega
  ·have:=Z4n h hk n (by omega)
   omega
theorem Rw {f:Nat->Nat}{c:Nat}(h:∀i,f i<=c):∀n,Oq f n<=n*c
 |0=>Nat.zero_le _
 |n+1=>by
  show Oq f n+f n<=(n+1)*c
  have h1:=Rw h n
  have h2:=h n
  rw[Nat.add_mul,Nat.one_mul]
  omega
noncomputable def Sy (sh:Shape)(b:Bounds)(y:Nat):Nat:=val sh b.sure y+(4-val sh b.maybe y)
noncomputable def mu (sh:Shape)(o:Option Bounds):Nat:=match o with
 |none=>0
 |some b=>1+Oq (Sy sh b) 32
theorem Z4o {sh:Shape}(hw:sh.ways<=4)(k:Nat):room sh k<=4:=by unfold room;omega
theorem Zhb {sh:Shape}(hw:sh.ways<=4){o:Option Bounds}(h:OkO sh o):mu sh o<=257:=by
 cases o with
 |none=>exact Nat.zero_le _
 |some b =>
  have:=Rw (f:=Sy sh b) (c:=8) (λi=>by
   have h1:=(h b rfl).good.sure.le i
   have h2:Rm sh i<=4:=Z4o hw _
   unfold Sy
   omega) 32
  show 1+Oq (Sy sh b) 32<=257
  omega
theorem Z4p {sh:Shape}{b c:Bounds}(h:Le sh b c)(y:Nat):Sy sh b y<=Sy sh c y:=by
 have h1:=h.sure y
 have h2:=h.maybe y
 unfold Sy
 omega
theorem Zm2 {sh:Shape}{o p:Option Bounds}(h:LeO sh o p):mu sh o<=mu sh p:=by
 cases o with
 |none=>exact Nat.zero_le _
 |some b =>
  obtain⟨c,rfl,l⟩:=h b rfl
  exact Nat.add_le_add_left (Z4m (Z4p l) 32) 1
theorem Zm3 {sh:Shape}(hw:sh.ways<=4){o p:Option Bounds}(ho:OkO sh o)(hp:OkO sh p)(h:LeO sh o p)(ne:o≠p):mu sh o<mu sh p:=by
 cases o with
 |none =>
  cases p with
  |none=>exact absurd rfl ne
  |some c =>
   show 0<1+Oq (Sy sh c) 32
   omega
 |some b =>
  obtain⟨c,rfl,l⟩:=h b rfl
  have gb:=(ho b rfl).good
  have gc:=(hp c rfl).good
  have hne:¬∀y,y<32->Sy sh b y=Sy sh c y:=λhall=>by
   refine ne (congrArg some (Le.anti gb gc l ⟨λy=>?_,λy=>?_⟩))
   ·by_cases hy:y<32
    ·have h0:=hall y hy
     have h1:=l.sure y
     have h2:=l.maybe y
     unfold Sy at h0
     omega
    ·rw[gb.sure.big (by omega),gc.sure.big (by omega)]
     exact Nat.le_refl _
   ·by_cases hy:y<32
    ·have h0:=hall y hy
     have h1:=l.sure y
     have h2:=l.maybe y
     have h3:=gb.maybe.le y
     have h4:Rm sh y<=4:=Z4o hw _
     unfold Sy at h0
     omega
    ·rw[gb.maybe.big (by omega),gc.maybe.big (by omega)]
     exact Nat.le_refl _
  obtain⟨k,hk,hk'⟩:∃k,k<32/\Sy sh b k<Sy sh c k:=by
   refine Classical.byContradiction λhno=>hne λy hy=>?_
   have h1:=Z4p l y
   by_cases q:Sy sh b y<Sy sh c y
   ·exact absurd ⟨y,hy,q⟩ hno
   ·omega
  exact Nat.add_lt_add_left (Z4n (Z4p l) hk' 32 hk) 1
noncomputable def muT (sh:Shape)(g:Graph)(t:Table):Nat:=Oq (λv=>mu sh (en t v)) g.nodes.length
theorem Z7g {sh:Shape}{g:Graph}{t u:Table}(ht:OkT sh g t)(hu:OkT sh g u)(h:∀v,v<g.nodes.length->en t v=en u v):t=u:=by
 refine List.ext_getElem? λv=>?_
 by_cases hv:v<g.nodes.length
 ·have e:=h v hv
  have h1:v<t.length:=by rw[ht.len];exact hv
  have h2:v<u.length:=by rw[hu.len];exact hv
  unfold en at e
  rw[getElem?_eq_getElem h1,getElem?_eq_getElem h2]at e ⊢
  exact congrArg some e
 ·rw[getElem?_eq_none (by rw[ht.len];omega),getElem?_eq_none (by rw[hu.len];omega)]
theorem Zl2 {sh:Shape}(hw:sh.ways<=4){g:Graph}{t u:Table}(ht:OkT sh g t)(hu:OkT sh g u)(h:LeT sh t u)(ne:t≠u):muT sh g t<muT sh g u:=by
 obtain⟨v,hv,q⟩:∃v,v<g.nodes.length/\en t v≠en u v:=by
  refine Classical.byContradiction λhno=>ne (Z7g ht hu λv hv=>?_)
  exact Classical.byContradiction λq=>hno ⟨v,hv,q⟩
 exact Z4n (λv=>Zm2 (h v)) (Zm3 hw (ht.ok v) (hu.ok v) (h v) q) _ hv
theorem Zfa {sh:Shape}(hw:sh.ways<=4){g:Graph}(hn:g.nodes.length<=12){t:Table}(ht:OkT sh g t):muT sh g t<=3084:=by
 have h1:=Rw (f:=λv=>mu sh (en t v)) (c:=257) (λv=>Zhb hw (ht.ok v)) g.nodes.length
 have h2:g.nodes.length*257<=12*257:=Nat.mul_le_mul_right _ hn
 exact Nat.le_trans h1 (Nat.le_trans h2 (by decide))
noncomputable def iter (sh:Shape)(g:Graph)(first:Bounds):Nat->Table
 |0=>firstTable g first
 |n+1=>round sh g first (iter sh g first n)
noncomputable section
variable {sh:Shape}{g:Graph}{first:Bounds}
theorem Tn (hg:Mi g)(hf:Ok sh first):∀n,OkT sh g (iter sh g first n)
 |0=>Z0g hf
 |n+1=>Zbd hg hf (Tn hg hf n)
theorem Zfb (hg:Mi g)(hf:Ok sh first):∀n,LeT sh (iter sh g first n) (iter sh g first (n+1))
 |0=>Zha hg hf
 |n+1=>Zcs hg hf (Tn hg hf n) (Tn hg hf (n+1)) (Zfb hg hf n)
theorem Zfc (hg:Mi g)(hf:Ok sh first)(hw:sh.ways<=4):∀n,(∀m,m<n->iter sh g first (m+1)≠iter sh g first m)->n<=muT sh g (iter sh g first n)
 |0,_=>Nat.zero_le _
 |n+1,h=>by
  have h1:=Zfc hg hf hw n λm hm=>h m (by omega)
  have h2:=Zl2 hw (Tn hg hf n) (Tn hg hf (n+1)) (Zfb hg hf n) λe=>h n (by omega) e.symm
  omega
theorem Zbe (hg:Mi g)(hf:Ok sh first)(hw:sh.ways<=4)(hn:g.nodes.length<=12){n:Nat}(h:∀m,m<n->iter sh g first (m+1)≠iter sh g first m):n<=3084 :=
 Nat.le_trans (Zfc hg hf hw n h) (Zfa hw hn (Tn hg hf n))
theorem Z0h {k:Nat}:∀n,n<=k->(∀m,m<n->iter sh g first (m+1)≠iter sh g first m)->rounds sh g first k (firstTable g first) 0=rounds sh g first (k-n) (iter sh g first n) n
 |0,_,_=>rfl
 |n+1,hk,h=>by
  rw[Z0h n (by omega) λm hm=>h m (by omega)]
  have e:k-n=(k-(n+1))+1:=by omega
  rw[e]
  show(if(round sh g first (iter sh g first n)==iter sh g first n)=true then _ else _)=_
  rw[if_neg (by
   intro q
   exact h n (by omega) (eq_of_beq q))]
  rfl
theorem Zct (hg:Mi g)(hf:Ok sh first)(hw:sh.ways<=4)(hn:g.nodes.length<=12){n:Nat}(h:∀m,m<n->iter sh g first (m+1)≠iter sh g first m)(e:iter sh g first (n+1)=iter sh g first n) :
  rounds sh g first ROUNDS (firstTable g first) 0=(iter sh g first n,n+1):=by
 have hb:=Zbe hg hf hw hn h
 rw[Z0h n (by show n<=4000;omega) h]
 have e2:ROUNDS-n=(ROUNDS-(n+1))+1:=by show 4000-n=(4000-(n+1))+1;omega
 rw[e2]
 show(if(round sh g first (iter sh g first n)==iter sh g first n)=true then _ else _)=_
 rw[if_pos (by
  have e':round sh g first (iter sh g first n)=iter sh g first n:=e
  rw[e']
  exact beq_self_eq_true _)]
end
structure CaOk (sh:Shape)(c:Vawcta.Cache):Prop where
 len:c.length=sh.sets
 set:∀(k:Nat) (l:List Nat),c[k]?=some l->l.length<=room sh k/\l.Nodup/\∀y∈l,y % sh.sets=k/\y<32
theorem Ua {sh:Shape}{c:Vawcta.Cache}(h:c.length=sh.sets)(hp:0<sh.sets)(x:Nat):c[x % sh.sets]?=some (setAt sh c x):=by
 have hx:x % sh.sets<c.length:=by rw[h];exact Nat.mod_lt _ hp
 unfold setAt
 rw[getD_eq_getElem?_getD,getElem?_eq_getElem hx]
 rfl
theorem Zhc {α:Type}{l:List α}{i:Nat}{a:α}(h:l[i]?=some a):l.set i a=l:=by
 refine List.ext_getElem? λj=>?_
 rw[List.getElem?_set]
 by_cases e:i=j
 ·subst e
  rw[if_pos rfl]
  have hi:i<l.length:=(List.getElem?_eq_some_iff.mp h).1
  rw[if_pos hi,h]
 ·rw[if_neg e]
theorem Vs {x:Nat}:∀{l:List Nat},x∉l->l.filter (λy=>y != x)=l
 |[],_=>rfl
 |a::l,h=>by
  have ha:a≠x:=λe=>h (e▸mem_cons_self)
  rw[filter_cons,if_pos (by simp[ha]),Vs λz=>h (mem_cons_of_mem _ z)]
theorem Ui {x:Nat}:∀{l:List Nat},l.Nodup->x∈l->(l.filter (λy=>y != x)).length+1=l.length
 |[],_,h=>by cases h
 |a::l,hn,h=>by
  obtain⟨h1,h2⟩:=nodup_cons.mp hn
  by_cases e:a=x
  ·subst e
   rw[filter_cons,if_neg (by simp),Vs h1]
   rfl
  ·have hx:x∈l:=by
    rcases List.mem_cons.mp h with z | z
    ·exact absurd z.symm e
    ·exact z
   rw[filter_cons,if_pos (by simp[e]),length_cons,Ui h2 hx]
   rfl
noncomputable def Pj (sh:Shape)(l:List Nat)(x:Nat):List Nat:=(x::l.filter (λy=>y != x)).take (room sh (x % sh.sets))
theorem Z4q {sh:Shape}{l:List Nat}{x:Nat}(hn:l.Nodup)(hl:l.length<=room sh (x % sh.sets))(h:¬(sh.oldest=true/\l.contains x=true)):Vawcta.touchSet sh.oldest (room sh (x % sh.sets)) l x=Pj sh l x:=by
 unfold Vawcta.touchSet Pj
 by_cases hc:l.contains x=true
 ·have ho:sh.oldest=false:=by
   cases q:sh.oldest with
   |false=>rfl
   |true=>exact absurd ⟨q,hc⟩ h
  rw[if_pos hc,ho]
  have hx:x∈l:=List.contains_iff_mem.mp hc
  have:=Ui hn hx
  show x::l.filter (λy=>y != x)=_
  rw[List.take_of_length_le (by rw[length_cons];omega)]
 ·rw[if_neg hc,Vs λz=>hc (List.contains_iff_mem.mpr z)]
theorem Tb {sh:Shape}{c:Vawcta.Cache}{x:Nat}(h:isLocked sh x=true):touchLine sh c x=c:=by
 unfold touchLine
 rw[if_pos h]
theorem Rh {sh:Shape}{c:Vawcta.Cache}{x:Nat}(hc:c.length=sh.sets)(hp:0<sh.sets)(h:sh.oldest=true/\(setAt sh c x).contains x=true):touchLine sh c x=c:=by
 unfold touchLine
 split
 ·rfl
 ·unfold Vawcta.touchSet
  rw[if_pos h.2,if_pos h.1]
  exact Zhc (Ua hc hp x)
theorem Ri {sh:Shape}{c:Vawcta.Cache}{x:Nat}(hc:CaOk sh c)(hp:0<sh.sets)(hl:isLocked sh x=false)(h:¬(sh.oldest=true/\(setAt sh c x).contains x=true)) :
  touchLine sh c x=c.set (x % sh.sets) (Pj sh (setAt sh c x) x):=by
 unfold touchLine
 rw[if_neg (by rw[hl];exact Bool.false_ne_true)]
 obtain⟨h1,h2,h3⟩:=hc.set _ _ (Ua hc.len hp x)
 rw[Z4q h2 h1 h]
theorem Zfd {sh:Shape}{l:List Nat}{x:Nat}(hx:x<32)(hn:l.Nodup)(hm:∀y∈l,y % sh.sets=x % sh.sets/\y<32) :
  (Pj sh l x).length<=room sh (x % sh.sets)/\(Pj sh l x).Nodup/\∀y∈Pj sh l x,y % sh.sets=x % sh.sets/\y<32:=by
 have hnd:(x::l.filter (λy=>y != x)).Nodup:=nodup_cons.mpr ⟨λz=>by have:=(List.mem_filter.mp z).2;simp at this,hn.filter _⟩
 refine⟨by unfold Pj;rw[length_take];omega,hnd.sublist (List.take_sublist _ _),λy hy=>?_⟩
 have hy':=List.mem_of_mem_take hy
 rcases List.mem_cons.mp hy' with e | hy'
 ·subst e
  exact⟨rfl,hx⟩
 ·exact hm y (List.mem_filter.mp hy').1
theorem Nu {sh:Shape}{c:Vawcta.Cache}{x:Nat}(hc:CaOk sh c)(hp:0<sh.sets)(hx:x<32):CaOk sh (touchLine sh c x):=by
 cases hl:isLocked sh x with
 |true =>
  rw[Tb hl]
  exact hc
 |false =>
  by_cases h:sh.oldest=true/\(setAt sh c x).contains x=true
  ·rw[Rh hc.len hp h]
   exact hc
  ·rw[Ri hc hp hl h]
   refine⟨by rw[List.length_set];exact hc.len,λk l e=>?_⟩
   rw[List.getElem?_set]at e
   by_cases q:x % sh.sets=k
   ·rw[if_pos q]at e
    split at e
    ·cases e
     obtain⟨h1,h2,h3⟩:=hc.set _ _ (Ua hc.len hp x)
     subst q
     exact Zfd hx h2 h3
    ·cases e
   ·rw[if_neg q]at e
    exact hc.set k l e
theorem Zbf (sh:Shape):CaOk sh (empty sh):=by
 refine⟨by unfold empty;rw[length_replicate],λk l e=>?_⟩
 unfold empty at e
 rw[getElem?_replicate]at e
 split at e
 ·cases e
  exact⟨Nat.zero_le _,nodup_nil,λy hy=>nomatch hy⟩
 ·cases e
theorem Uj {sh:Shape}(hp:0<sh.sets):∀(xs:List Nat) {c:Vawcta.Cache},CaOk sh c->(∀x∈xs,x<32)->CaOk sh (touchAll sh c xs).1
 |[],_,h,_=>h
 |x::xs,c,h,hx=>Uj hp xs (Nu h hp (hx x mem_cons_self)) λy hy=>hx y (mem_cons_of_mem _ hy)
theorem Pk (sh:Shape)(x:Nat):∀(xs:List Nat) (c:Vawcta.Cache),touchAll sh c (xs++[x])=(touchLine sh (touchAll sh c xs).1 x,(touchAll sh c xs).2++[!hits sh (touchAll sh c xs).1 x])
 |[],c=>rfl
 |y::xs,c=>by
  have ih:=Pk sh x xs (touchLine sh c y)
  show((touchAll sh (touchLine sh c y) (xs++[x])).1,(!hits sh c y)::(touchAll sh (touchLine sh c y) (xs++[x])).2)=_
  rw[ih]
  rfl
theorem Zhd {sh:Shape}{l:Ages}(h:GoodA sh l){x a:Nat}(hx:x<32)(ha:a<Rm sh x):GoodA sh (putAge x a l):=by
 refine⟨Z4h h.srt,λy b e=>?_⟩
 rw[Wi]at e
 split at e
 ·rename_i q
  cases e
  subst q
  exact⟨ha,hx⟩
 ·exact h.lt y b e
theorem Z7h {sh:Shape}:∀(zs:List (Nat×Nat)) {l:Ages},GoodA sh l->(∀z∈zs,z.1<32/\z.2<Rm sh z.1)->GoodA sh (zs.foldl (λm z=>putAge z.1 z.2 m) l)
 |[],_,h,_=>h
 |z::zs,_,h,k=>Z7h zs (Zhd h (k z mem_cons_self).1 (k z mem_cons_self).2) λy hy=>k y (mem_cons_of_mem _ hy)
theorem Tc {sh:Shape}{c:Vawcta.Cache}(h:CaOk sh c):Ok sh (boundsOfState c):=by
 have g:GoodA sh (boundsOfState c).sure:=by
  refine Z7h _ ⟨Srt.nil,λy a e=>by cases e⟩ λz hz=>?_
  obtain⟨s,hs,hz⟩:=List.mem_flatMap.mp hz
  obtain⟨k,hk⟩:=List.getElem?_of_mem hs
  obtain⟨h1,h2,h3⟩:=h.set k s hk
  obtain⟨i,hi,e⟩:=List.mem_iff_getElem.mp hz
  rw[List.getElem_zipIdx]at e
  rw[List.length_zipIdx]at hi
  have hm:z.1∈s:=by rw[<-e];exact List.getElem_mem hi
  have e2:z.2=i:=by rw[<-e];simp
  refine⟨(h3 _ hm).2,?_⟩
  show z.2<room sh (z.1 % sh.sets)
  rw[(h3 _ hm).1,e2]
  omega
 exact⟨⟨g,g⟩,λ_ y=>Nat.le_refl _⟩
end Sl
end
noncomputable section
namespace L2
open PySem PySem.Spec PyProof.Rows
noncomputable section
variable {X:Cx}
noncomputable def Zm4 (K:PySem.W.Frag):R2:=λx y H Q=>∃a b ys,x=.ref a/\y=.ref b/\SqT K H a []/\SqT K H b ys/\Q (.ref b) H
theorem Zjn:OpR X (binaryOp .Add) (Zm4 X.K):=by
 intro pins s σ H x y v u Q I rx ry h
 obtain⟨a,b,ys,rfl,rfl,ha,hb,q⟩:=h
 cases rx
 cases ry
 obtain⟨its,r1,p1,_⟩:=I.tuple ha
 obtain⟨its2,r2,p2,z2⟩:=I.tuple hb
 cases r1
 obtain⟨m,F⟩:=I.fr
 refine add_tuples F (news:=[]) (λp hp=>by cases hp) p1 p2 (λ_=>⟨.ref b,H,I,rfl,q⟩) (λz=>absurd rfl z) (λz=>absurd rfl z) ?_
 rw[<-r2.length]
 show 0+ys.length<=sizeLine
 omega
theorem Sr:Rn X (.type "dict") (λxs H Q=>∃a kvs,xs=[.ref a]/\Rd H a (.dK kvs)/\∀l,H l=none->Q (.ref l) (upd H l (.dK kvs))):=by
 intro pins s σ H xs us Q I r h
 obtain⟨a,kvs,rfl,ha,q⟩:=h
 obtain⟨u,rfl,ru⟩:=Zgz r
 cases ru
 obtain⟨z,hd,vs,rel,dd⟩:=Z1p I.hok ha
 refine kt_call_dict hd dd (by rw[<-rel.length];exact z) λh' dd' hs=>?_
 refine⟨.ref s.heap.objs.size,upd H s.heap.objs.size (.dK kvs),I.laid (h':=h') (t':=s.toks) (λb u e=>?_) (Nat.le_refl _) ⟨z,beq_eq_false_iff_ne.mpr (Ne.symm (Nat.ne_of_lt I.big)),vs,rel,dd'⟩,rfl,q _ I.fresh⟩
 exact(hs.2 b (Nat.ne_of_lt (Heap.lt_size e))).trans (Heap.get?_push_of_some _ e)
noncomputable def Zfe (kvs:List (Key×V)):Prop:=∀p∈kvs,∃i,p.2=V.int i
theorem RelO.inv_some {v:V}{o:Option Value}(h:RelO (some v) o):∃u,o=some u/\RelV v u:=by
 cases o with
 |none=>exact h.elim
 |some u=>exact⟨u,rfl,h⟩
theorem RelO.inv_none {o:Option Value}(h:RelO none o):o=none:=by
 cases o with
 |none=>rfl
 |some u=>exact h.elim
theorem Zhe {kvs:List (Key×V)}{k:Key}{v:V}(h:valV kvs k=some v):(k,v)∈kvs:=by
 unfold valV at h
 cases q:kvs.find? (λkv=>decide (kv.1=k)) with
 |none =>
  rw[q]at h
  cases h
 |some p =>
  rw[q]at h
  have e:p.2=v:=Option.some.inj h
  have e0:decide (p.1=k)=true:=List.find?_some (p:=λkv:Key×V=>decide (kv.1=k)) q
  have e1:p.1=k:=of_decide_eq_true e0
  have m:=List.mem_of_find?_eq_some q
  rw[<-e,<-e1]
  exact m
theorem Zff {A:Around}{s:Shared}{kb:List (Key×V)}{wb:List (Key×Value)}(rb:KV kb wb)(ib:Zfe kb):∀{ka:List (Key×V)} {wa:List (Key×Value)},KV ka wa->Zfe ka->
  PySem.W.KeqHits A s wb wa (ka.all λp=>decide (valV kb p.1=some p.2))
 |_,_,.nil,_=>.nil
 |(k,v)::ka,(k',u)::wa,.cons r t,ia=>by
  obtain⟨e,rv⟩:=r
  have e:k=k':=e
  subst e
  obtain⟨i,hi⟩:=ia (k,v) List.mem_cons_self
  have hi:v=V.int i:=hi
  subst hi
  obtain⟨tk,rfl⟩:=rv
  have ih:=Zff (A:=A) (s:=s) rb ib t λp hp=>ia p (List.mem_cons_of_mem _ hp)
  have hr:=rb.val k
  show PySem.W.KeqHits A s wb ((k,Value.int i tk)::wa) (decide (valV kb k=some (V.int i))&&_)
  cases q:valV kb k with
  |none =>
   rw[q]at hr
   rw[decide_eq_false (by intro z;cases z),Bool.false_and]
   exact .miss (RelO.inv_none hr)
  |some y =>
   rw[q]at hr
   obtain⟨w',hw,rw'⟩:=RelO.inv_some hr
   obtain⟨j,hj⟩:=ib _ (Zhe q)
   have hj:y=V.int j:=hj
   subst hj
   obtain⟨tk2,rfl⟩:=rw'
   have e:decide (some (V.int j)=some (V.int i))=(i==j):=by
    by_cases z:i=j
    ·subst z
     simp
    ·have z':¬j=i:=λw=>z w.symm
     simp[z,z']
   rw[e]
   exact .hit hw (SeqAt.EqAt.int_int i tk j tk2) ih
noncomputable def rEqK:R2:=λx y H Q=>∃a b ka kb,x=.ref a/\y=.ref b/\Rd H a (.dK ka)/\Rd H b (.dK kb)/\Zfe ka/\Zfe kb/\Q (.bl (ka.length==kb.length&&ka.all λp=>decide (valV kb p.1=some p.2))) H
theorem Zij (hu:X.A.units+1<cLine):OpR X (compareOp .Eq) rEqK:=by
 intro pins s σ H x y v u Q I rx ry h
 obtain⟨a,b,ka,kb,rfl,rfl,ha,hb,ia,ib,q⟩:=h
 cases rx
 cases ry
 obtain⟨z1,d1,va,ra,da⟩:=Z1p I.hok ha
 obtain⟨z2,d2,vb,rb,db⟩:=Z1p I.hok hb
 refine PySem.W.keq_eq d1 d2 da db (by omega) (λ_=>Zff rb ib ra ia) ⟨.bl _,H,I,rfl,?_⟩
 rw[<-ra.length,<-rb.length]
 exact q
theorem Mj:fillsNumberSlot (.type "tuple") "mul"=pure false :=
 PySem.fillsNumberSlot_seq (id:="tuple.__mul__") (r:=some (.builtin "tuple.__rmul__")) F.slot_tuple_mul.lookup (by decide +kernel) F.slot_tuple_rmul.lookup (by decide +kernel)
theorem Z7i:seqRepeat? (.type "tuple")=pure (some (.builtin "tuple.__mul__")):=by
 unfold seqRepeat?
 rw[PySem.seqSlot_of (T:="tuple") (name:="__mul__") (id:="tuple.__mul__") F.slot_tuple_mul.lookup (by decide +kernel),PySem.seqSlot_of (T:="tuple") (name:="__rmul__") (id:="tuple.__rmul__") F.slot_tuple_rmul.lookup (by decide +kernel)]
 rfl
theorem Z1s (a:Int)(t:Tok)(l:Addr)(items:Array Value)(n:Nat)(dd:Option Addr)(sl:Array (Option Value)) :
  Meets (Builtin.«int.__rmul__» ⟨[.int a t,.ref l],[]⟩) (λ_ R s=>s.heap.get? l=some {cls:=.type "tuple",dict:=dd,data:=.seq items n,slots:=sl}/\R (.ok (.ret Value.notImplemented)) s) :=
 .of_wp λprog w A R s h=>by obtain⟨hp,g,d,tk,os⟩:=s;obtain⟨hl,h⟩:=h;wp_walk;exact⟨_,rfl,h⟩
theorem Za2 (l:Addr)(items:Array Value)(n:Nat)(dd:Option Addr)(sl:Array (Option Value))(u:Tok) :
  Meets (Builtin.«tuple.__mul__» ⟨[.ref l,.int 1 u],[]⟩) (λ_ R s=>s.heap.get? l=some {cls:=.type "tuple",dict:=dd,data:=.seq items n,slots:=sl}/\R (.ok (.ret (.ref l))) s) :=
 .of_wp λprog w A R s h=>by
  obtain⟨hp,g,d,tk,os⟩:=s
  obtain⟨hl,h⟩:=h
  wp_walk
  exact⟨_,rfl,h⟩
theorem Za3 (l:Addr)(items:Array Value)(n:Nat)(dd:Option Addr)(sl:Array (Option Value))(x:Int)(u:Tok)(hc0:¬(decide (x < -(2 ^ 63))||decide (x>=2 ^ 63))=true)(hc1:¬(items.isEmpty||x==1)=true)
  (hc2:¬(decide (x<=0)||items.isEmpty)=true) (hc3:¬(items.size:Int)*x > (2 ^ 63-1) / 8) (hc4:¬Builtin.Tuple.tupleTooMany (items.size*x)=true)
  (hc5:¬(List.foldl (λx1 x2=>x1++x2) #[] (List.replicate x.toNat items)).size > sizeLine) :
  Meets (Builtin.«tuple.__mul__» ⟨[.ref l,.int x u],[]⟩) (λ_ R s=>s.heap.get? l=some {cls:=.type "tuple",dict:=dd,data:=.seq items n,slots:=sl}/\
   R (.ok (.ret (.ref s.heap.objs.size))) {s with heap:=s.heap.push {cls:=Value.type "tuple",data:=Data.seq ((List.replicate x.toNat items).foldl (·++·) #[])}}) :=
 .of_wp λprog w A R s h=>by
  obtain⟨hp,g,d,tk,os⟩:=s
  obtain⟨hl,h⟩:=h
  wp_walk
  rw[if_neg hc0]
  wp_walk
  rw[if_neg hc3]
  wp_walk
  exact⟨_,rfl,h⟩
noncomputable def Zm5 (K:PySem.W.Frag):R2:=λx y H Q=>∃a k xs,x=.ref a/\y=.int k/\SqT K H a xs/\xs≠[]/\1<=k/\k<=1000/\xs.length*k.toNat<=sizeLine/\
 (k=1->Q (.ref a) H)/\(k≠1->∀p,H p=none->Q (.ref p) (upd H p (.tup (List.replicate k.toNat xs).flatten)))
theorem Zjo:OpR X (binaryOp .Mult) (Zm5 X.K):=by
 intro pins s σ H x y v u Q I rx ry h
 obtain⟨a,k,xs,rfl,rfl,ha,hne,h1,h2,hz,q1,q2⟩:=h
 cases rx
 obtain⟨t,rfl⟩:=ry
 obtain⟨its,r,p1,_⟩:=I.tuple ha
 obtain⟨⟨cls,dd,data,sl⟩,ho,hc,n,hd⟩:=id p1
 simp only at hc hd
 subst hc hd
 have hl:its.length=xs.length:=r.length.symm
 have hits:its≠[]:=λz=>hne (r.nil_iff.mp z)
 have he:its.toArray.isEmpty=false:=by
  cases its with
  |nil=>exact absurd rfl hits
  |cons _ _=>rfl
 refine wpAny_binaryOp_repeat_ref (T:="tuple") (U:="int") (by decide) ⟨_,ho,rfl⟩ (λs'=>typeIs_int s' k t) Mj F.fills_int_mul F.slot_int_rmul Z7i F.slot_int_index.lookup
  (call_meets F.slot_int_rmul (typeIs_int s k t) F.entry_int_rmul (F.args_int_rmul_2 _ _) (Z1s k t a its.toArray n dd sl) ⟨ho,rfl,⟨_,ho,rfl⟩,?_⟩)
 by_cases hk:k=1
 ·subst hk
  exact call_meets F.slot_tuple_mul ⟨_,ho,rfl⟩ F.entry_tuple_mul (F.args_tuple_mul_2 _ _) (Za2 a its.toArray n dd sl t) ⟨ho,⟨.ref a,H,I,rfl,q1 rfl⟩⟩
 ·have hkn:(k.toNat:Int)=k:=Int.toNat_of_nonneg (by omega)
  have hmul:(its.toArray.size:Int)*k=((xs.length*k.toNat:Nat):Int):=by
   rw[List.size_toArray,hl,Int.natCast_mul,hkn]
  have f0:List.foldl (λx1 x2=>x1++x2) #[] (List.replicate k.toNat its.toArray)=(List.replicate k.toNat its).flatten.toArray:=by
   have:=Z6r its k.toNat []
   rw[List.nil_append]at this
   exact this
  have hz':((xs.length*k.toNat:Nat):Int)<=16777216:=by
   have:xs.length*k.toNat<=16777216:=by rw[<-sizeLine_eq];exact hz
   omega
  refine call_meets F.slot_tuple_mul ⟨_,ho,rfl⟩ F.entry_tuple_mul (F.args_tuple_mul_2 _ _) (Za3 a its.toArray n dd sl k t ?_ ?_ ?_ ?_ ?_ ?_) ⟨ho,?_⟩
  ·have e1:decide (k < -(2 ^ 63))=false:=decide_eq_false (by omega)
   have e2:decide (k>=2 ^ 63)=false:=decide_eq_false (by omega)
   rw[e1,e2]
   exact Bool.false_ne_true
  ·rw[he,beq_eq_false_iff_ne.mpr hk]
   exact Bool.false_ne_true
  ·rw[he,decide_eq_false (by omega)]
   exact Bool.false_ne_true
  ·rw[hmul]
   have:((2 ^ 63-1) / 8:Int)=1152921504606846975:=by decide
   omega
  ·rw[hmul]
   unfold Builtin.Tuple.tupleTooMany
   have e3:decide (((xs.length*k.toNat:Nat):Int) > (sizeLine:Int))=false:=decide_eq_false (by rw[sizeLine_eq];omega)
   rw[e3]
   exact Bool.false_ne_true
  ·rw[f0,List.size_toArray,Zei,hl,Nat.mul_comm]
   omega
  ·rw[f0]
   refine⟨.ref s.heap.objs.size,_,I.laid (t':=s.toks) (o:=.tup (List.replicate k.toNat xs).flatten) (λb ob q=>Heap.get?_push_of_some _ q) (Nat.le_refl _) ?_,rfl,q2 hk _ I.fresh⟩
   exact⟨by rw[Zei,Nat.mul_comm];exact hz,_,r.rep k.toNat,IsTup.new _ _⟩
theorem Z7j:∀(us:List Value) (ns:List Int),us.length=ns.length->(∀(j:Nat) (u:Value) (n:Int),us[j]?=some u->ns[j]?=some n->∃t,u=Value.int n t)->IntsAre us ns
 |[],[],_,_=>.nil
 |[],_::_,h,_=>by cases h
 |_::_,[],h,_=>by cases h
 |u::us,n::ns,h,k=>by
  obtain⟨t,rfl⟩:=k 0 u n rfl rfl
  exact .cons n t (Z7j us ns (Nat.succ.inj h) λj v m hv hm=>k (j+1) v m hv hm)
theorem Zcu (hc:X.calm=true):Rn X (.builtin "sorted") (λvs H Q=>∃(a:Addr) (kvs:List (Key×V)) (ns:List Int),vs=[V.ref a]/\H a=some (.dK kvs)/\kvs.map (·.1)=ns.map Sum.inl/\ns.length<64/\
  ∀(ns':List Int) (p:Addr),ns'.Perm ns->ns'.Pairwise (·<=·)->H p=none->Q (.ref p) (upd H p (.lst (ns'.map V.int)))):=by
 intro pins s σ H vs us Q I r h
 obtain⟨a,kvs,ns,rfl,ha,hk,h64,q⟩:=h
 rw[Vals.ref1 r]
 obtain⟨z,hd,vs,rel,dd⟩:=Zkq I.hok ha
 obtain⟨ep,hat⟩:=dd.dictAt
 refine PySem.Calls.call_function_entry kind_sorted plain_sorted entry_sorted (args_sorted1 _) ?_
 unfold Builtin.«sorted»
 refine wpAny_bind (m:=checkCount "sorted" 1 1 _) (wpAny_pure ?_)
 have hvl:vs.length=ns.length:=by
  have:=congrArg List.length hk
  rw[List.length_map,List.length_map]at this
  rw[<-rel.length]
  exact this
 refine wpAny_bind (PySem.W.kdu_collect (A:=X.A.in1) (PySem.W.kdl_dict (knd:=Yu X.prog X.w) (kvs:=vs) (ep:=ep) hd) (I.ok.hd hc) hat (by rw[<-rel.length];exact z) λh' tk acc hkeep hacc=>?_)
 have hal:acc.toList.length=ns.length:=by rw[Array.length_toList,hacc.1,hvl]
 have hi:IntsAre acc.toList ns:=by
  refine Z7j acc.toList ns hal λj u n hu hn=>?_
  obtain⟨k,x,hx,hkk⟩:=hacc.2 j u (by rw[<-Array.getElem?_toList];exact hu)
  have e1:(vs.map (·.1))[j]?=some k:=by rw[List.getElem?_map,hx];rfl
  rw[<-rel.keys,hk,List.getElem?_map,hn]at e1
  have e2:Sum.inl n=k:=Option.some.inj e1
  subst e2
  obtain⟨t,e⟩:=Value.isInt_shape (k:=n) (v:=u) hkk
  exact⟨t,e⟩
 have I1:Inv X pins σ H {s with heap:=h',toks:=tk}:=I.kept hkeep
 refine wpAny_bind (wpAny_newList ?_ (by rw[hal];exact Z9s h64))
 have hfr:H h'.objs.size=none:=I1.fresh
 have I2:=I1.lnew (its:=acc.toList) (ys:=ns.map V.int) (t':=tk) (Tg hi) (by rw[List.length_map];exact Z9s h64)
 refine wpAny_bind (wpAny_holding ?_)
 refine wpAny_call_entry (Q:=λ_ s'=>wpAny (model X.prog X.w) X.A.in1 (ret (.ref h'.objs.size)) _ _ s') PyProof.Rows.slot_list_sort ⟨_,Heap.get?_push_size _ rfl,rfl⟩ PyProof.Rows.entry_list_sort
  (PyProof.Rows.list_sort_tree (Heap.get?_push_size _ rfl) hi (by rw[hi.length];exact h64) λout ns' h1 h2 h3=>⟨.none,rfl,wpAny_pure ⟨_,rfl,?_⟩⟩) (PyProof.Rows.args_list_sort _)
 obtain⟨ep',he'⟩:=PyProof.Rows.sortedHeap_at (vs:=acc.toList) (out:=out) (h:=h'.push {cls:=.type "list",data:=.seq acc.toList.toArray}) (Heap.get?_push_size _ rfl)
 have hlen:(ns'.map V.int).length<=sizeLine:=by rw[List.length_map,h2.length_eq];exact Z9s h64
 refine⟨.ref h'.objs.size,upd H h'.objs.size (.lst (ns'.map V.int)),I1.laid (t':=tk) (λb u e=>?_) (Nat.le_refl _) ⟨hlen,out.toList,ep',Tg h1,he'⟩,rfl,q ns' _ h2 h3 hfr⟩
 have e':(h'.push {cls:=.type "list",data:=.seq acc.toList.toArray}).get? b=some u:=Heap.get?_push_of_some _ e
 rw[PyProof.Rows.sortedHeap_old (Nat.ne_of_lt (Heap.lt_size e)) (Heap.lt_size e')]
 exact e'
noncomputable def Za4 (ns:List Int):Nat:=(ns.foldl step_dedup []).length
theorem Z3a:∀(ns:List Int),(List.range ns.length).map (λi=>ns.getD i 0)=ns
 |[]=>rfl
 |n::ns=>by
  rw[List.length_cons,List.range_succ_eq_map,List.map_cons,List.map_map]
  have:=Z3a ns
  exact congrArg (n::·) this
theorem Z7k (ns:List Int):firstMet (λi=>ns.getD i 0) ns.length=ns.foldl step_dedup []:=by
 unfold firstMet
 rw[Z3a]
theorem Vn:∀(ns acc:List Int),(ns.foldl step_dedup acc).length<=acc.length+ns.length
 |[],acc=>by simp
 |n::ns,acc=>by
  have h1:=Vn ns (step_dedup acc n)
  have h2:=step_length acc n
  rw[List.foldl_cons,List.length_cons]
  split at h2 <;> omega
theorem Z7l:∀(ns acc:List Int),(ns.foldl step_dedup acc).length=acc.length+ns.length↔ns.Nodup/\∀n∈ns,n∉acc
 |[],acc=>by simp
 |n::ns,acc=>by
  rw[List.foldl_cons,List.length_cons]
  have h1:=Vn ns (step_dedup acc n)
  have h2:=step_length acc n
  by_cases hm:acc.any (·==n)=true
  ·rw[if_pos hm]at h2
   have hmem:n∈acc:=by
    obtain⟨x,hx,e⟩:=List.any_eq_true.mp hm
    have:x=n:=eq_of_beq e
    exact this▸hx
   constructor
   ·intro q
    omega
   ·intro q
    exact absurd hmem (q.2 n List.mem_cons_self)
  ·rw[if_neg hm]at h2
   have hmem:n∉acc:=λz=>hm (List.any_eq_true.mpr ⟨n,z,beq_self_eq_true n⟩)
   have es:step_dedup acc n=acc++[n]:=by
    unfold step_dedup
    rw[if_neg hm]
   have ih:=Z7l ns (step_dedup acc n)
   rw[h2]at ih
   constructor
   ·intro q
    obtain⟨i1,i2⟩:=ih.mp (by omega)
    rw[es]at i2
    refine⟨List.nodup_cons.mpr ⟨λz=>i2 n z (List.mem_append_right _ (List.mem_singleton.mpr rfl)),i1⟩,λx hx=>?_⟩
    rcases List.mem_cons.mp hx with e | hx
    ·rw[e]
     exact hmem
    ·exact λz=>i2 x hx (List.mem_append_left _ z)
   ·intro q
    obtain⟨q1,q2⟩:=List.nodup_cons.mp q.1
    have:=ih.mpr ⟨q2,λx hx=>by
     rw[es]
     intro z
     rcases List.mem_append.mp z with z | z
     ·exact q.2 x (List.mem_cons_of_mem _ hx) z
     ·exact q1 (List.mem_singleton.mp z▸hx)⟩
    omega
theorem Zbg (ns:List Int):(Za4 ns<ns.length)↔¬ns.Nodup:=by
 have h1:=Vn ns []
 have h2:=Z7l ns []
 unfold Za4
 simp only[List.length_nil,Nat.zero_add]at h1 h2
 constructor
 ·intro h hn
  have:=h2.mpr ⟨hn,λn _ z=>nomatch z⟩
  omega
 ·intro h
  by_cases e:(ns.foldl step_dedup []).length=ns.length
  ·exact absurd (h2.mp e).1 h
  ·omega
theorem Zfg (hc:X.calm=true):Rn X (.type "set") (λxs H Q=>∃a ns,xs=[.ref a]/\SqL X.K H a (ns.map V.int)/\ns.length<4000/\∀p S,H p=none->Q (.ref p) (upd H p (.set S (Za4 ns)))):=by
 intro pins s σ H xs us Q I r h
 obtain⟨a,ns,rfl,ha,hz,q⟩:=h
 rw[Vals.ref1 r]
 obtain⟨its,rv,hl,_⟩:=I.list ha
 have hi:=rv.ints
 have hlen:its.toArray.size=ns.length:=by rw[List.size_toArray,hi.length]
 refine call_set_list (I.ok.hd hc) hl.isList (by simpa using hi) (by rw[hlen];show ns.length+1<4096;omega) λh' tk hS hk=>?_
 rw[hlen,Z7k]at hS
 exact⟨.ref s.heap.objs.size,_,I.laid (t':=tk) (o:=.set (λk'=>(ns.foldl step_dedup []).any (·==k')) (Za4 ns)) (λb u e=>hk b u (Heap.lt_size e) e) (Nat.le_refl _) hS,rfl,q _ _ I.fresh⟩
theorem Zfh:Rn X (.builtin "len") (λxs H Q=>∃a S n,xs=[.ref a]/\H a=some (.set S n)/\n<4096/\Q (.int (n:Nat)) H):=by
 intro pins s σ H xs us Q I r h
 obtain⟨a,S,n,rfl,ha,hz,q⟩:=h
 rw[Vals.ref1 r]
 obtain⟨o,es,ep,t,ho,hx,hd,_,_,_,hf,hn⟩:=(show s.heap.SetOf (intKind X.prog X.w) a S n from I.hok a _ ha)
 subst hn
 exact call_len_set ho hx hd hf (by omega) ⟨.int _,H,I.tok _,⟨_,rfl⟩,q⟩
end
noncomputable section
variable {prog:Program}{w:World}{A:Around}{E:Value->Shared->Prop}{s:Shared}
theorem Os {it l:Addr}{i:Nat}{items:Array Value}{x:Value}{Q:Value->Shared->Prop}(hit:s.heap.IsTupleIter it l i)
  (hl:s.heap.IsTuple l items) (hx:items[i]?=some x)
  (hQ:∀h',h'.IsTupleIter it l (i+1)->Heap.SameBut it s.heap h'->Q x {s with heap:=h'}) :
  wpAny (model prog w) A (Builtin.SmallTypes.nextOf (.ref it)) Q E s:=by
 obtain⟨o,ho,hc,hd⟩:=id hit
 obtain⟨ol,hol,_,nl,hdl⟩:=hl
 unfold Builtin.SmallTypes.nextOf
 refine wpAny_bind (wpAny_callSpecial?_slot (name:=Str.ofString "__next__") hit.typeIs F.slot_tuple_iterator_next
  (wpAny_call_entry F.slot_tuple_iterator_next hit.typeIs F.entry_tuple_iterator_next ?_ (F.args_tuple_iterator_next_1 _)))
 show wpAny _ _ (field (.ref it) 0 >>= _) _ _ s
 refine wpAny_bind (wpAny_field ho hd (x:=.ref l) rfl ?_)
 show wpAny _ _ (if(Value.ref l==Value.none)=true then _ else _) _ _ s
 rw[if_neg (show ¬((Value.ref l==Value.none)=true) from Bool.false_ne_true)]
 show wpAny _ _ (field (.ref it) 1 >>= _) _ _ s
 refine wpAny_bind (wpAny_field ho hd (x:=.int i 0) rfl ?_)
 show wpAny _ _ (seqItems? (.ref l) >>= _) _ _ s
 refine wpAny_bind (wpAny_seqItems hol hdl ?_)
 simp only[Int.toNat_natCast,hx]
 refine wpAny_bind (wpAny_setField ho hd (by simp) (wpAny_pure ⟨x,rfl,wpAny_pure (hQ _ ?_ (Heap.SameBut.update ..))⟩))
 exact⟨_,Heap.get?_update_self _ ho (Obj.isFreed_of_fields (Obj.data_mapFields hd _)),(Obj.cls_mapFields ..).trans hc,by
  rw[Obj.data_mapFields hd];simp[rawInt]⟩
theorem Ml {it l:Addr}{i:Nat}{items:Array Value}{Q:Value->Shared->Prop}(hh:A.handled=none)
  (hit:s.heap.IsTupleIter it l i) (hl:s.heap.IsTuple l items) (hx:items[i]?=none)
  (hE:∀h' e,Heap.ExtBut it s.heap h'->(∃o,h'.get? e=some o/\o.cls=.type "StopIteration")->E (.ref e) {s with heap:=h'}) :
  wpAny (model prog w) A (Builtin.SmallTypes.nextOf (.ref it)) Q E s:=by
 obtain⟨o,ho,hc,hd⟩:=id hit
 obtain⟨ol,hol,_,nl,hdl⟩:=hl
 unfold Builtin.SmallTypes.nextOf
 refine wpAny_bind (wpAny_callSpecial?_slot (name:=Str.ofString "__next__") hit.typeIs F.slot_tuple_iterator_next
  (wpAny_call_entry F.slot_tuple_iterator_next hit.typeIs F.entry_tuple_iterator_next ?_ (F.args_tuple_iterator_next_1 _)))
 show wpAny _ _ (field (.ref it) 0 >>= _) _ _ s
 refine wpAny_bind (wpAny_field ho hd (x:=.ref l) rfl ?_)
 show wpAny _ _ (if(Value.ref l==Value.none)=true then _ else _) _ _ s
 rw[if_neg (show ¬((Value.ref l==Value.none)=true) from Bool.false_ne_true)]
 show wpAny _ _ (field (.ref it) 1 >>= _) _ _ s
 refine wpAny_bind (wpAny_field ho hd (x:=.int i 0) rfl ?_)
 show wpAny _ _ (seqItems? (.ref l) >>= _) _ _ s
 refine wpAny_bind (wpAny_seqItems hol hdl ?_)
 simp only[Int.toNat_natCast,hx]
 refine wpAny_bind (wpAny_rule (wpAny_bind (wpAny_setField ho hd (by simp) ?_)))
 show wpAny _ _ (newExc (.type "StopIteration") [] >>= _) _ _ _
 refine wpAny_bind ?_
 simp only[newExc,newTuple]
 refine wpAny_bind (wpAny_newObj_type ?_ (by size_fits))
 refine wpAny_bind (m:=firstArgMember _ _) (wpAny_of_eq (a:=Value.none) (by first | rfl | (simp only[firstArgMember];rfl)) ?_)
 refine wpAny_newObj_type ?_ (by size_fits)
 simp only[raiseNew]
 refine wpAny_bind (wpAny_handled ?_)
 first | rw[show A.in1.handled=none from hh] | rw[hh]
 refine wpAny_bind (wpAny_pure (wpAny_throw ?_))
 exact hE _ _ (((Heap.SameBut.update ..).extBut.push _).push _) ⟨_,Heap.get?_push_size _ rfl,rfl⟩
end
theorem Z0i {prog:Program}{w:World}{A:Around}(hh:A.handled=none)(it l:Addr)(hne:l≠it)(items:Array Value) :
  Draws prog w A it [it,l] items.size (λi v=>items[i]?=some v) (λi h=>h.IsTupleIter it l i/\h.IsTuple l items) where
 live:=λ_ _ st=>let ⟨o,ho,_⟩:=st.1;⟨o,ho⟩
 frame:=λ_ _ _ st hk=>⟨st.1.at λo e=>hk it (by simp) o e,let ⟨o,ho,r⟩:=st.2;⟨o,hk l (by simp) o ho,r⟩⟩
 item:=λi s Q E hi st hQ=>by
  refine Os st.1 st.2 (x:=items[i]) (by simp[hi]) λh' hit' hs'=>?_
  exact hQ _ h' s.toks (by simp[hi]) ⟨hit',st.2.extBut hs'.extBut hne⟩ hs'
 done:=λs Q E st hE=>Ml hh st.1 st.2 (by simp) hE
theorem Sz (l:Addr)(items:Array Value)(n:Nat)(dct:Option Addr)(sl:Array (Option Value)) :
  Meets (Builtin.«enumerate.__new__» ⟨[.type "enumerate",.ref l],[]⟩) (λ_ R s=>s.heap.get? l=some {cls:=.type "tuple",dict:=dct,data:=.seq items n,slots:=sl}/\
   R (.ok (.ret (.ref (s.heap.push {cls:=.type "tuple_iterator",data:=.fields #[.ref l,.int 0 0]}).objs.size)))
    {s with heap:=(s.heap.push {cls:=.type "tuple_iterator",data:=.fields #[.ref l,.int 0 0]}).push {cls:=.type "enumerate",data:=.fields #[.none,.bool false,.ref s.heap.objs.size,rawInt 0,.none,.none]}}) :=
 .of_wp λprog w A R s h=>by
  obtain⟨hp,g,d,tk,os⟩:=s;obtain⟨hl,h⟩:=h
  have hsub:=sub_enumerate
  have hL:Heap.IsTuple (Shared.heap ⟨hp,g,d,tk,os⟩) l items:=⟨_,hl,rfl,n,rfl⟩
  wp_walk using AutoSeq1.wpAny_loadPart' hl
  refine wpAny_stack_any λst=>wpAny_pure ?_
  split
  ·rename_i c _ _ _ _ _
   cases (c==Value.type "enumerate")
   ·wp_walk using AutoSeq1.wpAny_loadPart' hl,wpAny_pyIter_tuple hL
    exact⟨_,rfl,h⟩
   ·wp_walk using AutoSeq1.wpAny_loadPart' hl,wpAny_pyIter_tuple hL
    exact⟨_,rfl,h⟩
  ·wp_walk using AutoSeq1.wpAny_loadPart' hl,wpAny_pyIter_tuple hL
   exact⟨_,rfl,h⟩
theorem Ra {prog:Program}{w:World}{A:Around}{E:Value->Shared->Prop}{s:Shared}{l:Addr}{items:Array Value}{Q:Value->Shared->Prop}(hL:s.heap.IsTuple l items)
  (h:∀h',IsEnum h' (s.heap.objs.size+1) s.heap.objs.size 0 .none->h'.IsTupleIter s.heap.objs.size l 0->h'.objs.size=s.heap.objs.size+2->
   (∀b o,s.heap.get? b=some o->h'.get? b=some o)->Q (.ref (s.heap.objs.size+1)) {s with heap:=h'}) :
  wpAny (model prog w) A (call (.type "enumerate") [.ref l]) Q E s:=by
 obtain⟨⟨c,dct,dt,sl⟩,hl,hc,n,hd⟩:=hL
 replace hc:c=.type "tuple":=hc
 replace hd:dt=.seq items n:=hd
 subst hc hd
 refine callType_new F.called_enumerate (by decide) (F.typeCall_enumerate_1 _) (F.newCall_enumerate_1 _) (λobj=>F.args_object_init_2 obj _) F.entry_enumerate_new
  (Sz l items n dct sl) ⟨hl,?_⟩
 have hz:(s.heap.push {cls:=.type "tuple_iterator",data:=.fields #[.ref l,.int 0 0]}).objs.size=s.heap.objs.size+1:=Heap.size_push ..
 show _/\_
 rw[hz]
 have he:IsEnum ((s.heap.push {cls:=.type "tuple_iterator",data:=.fields #[.ref l,.int 0 0]}).push
   {cls:=.type "enumerate",data:=.fields #[.none,.bool false,.ref s.heap.objs.size,rawInt 0,.none,.none]}) (s.heap.objs.size+1) s.heap.objs.size 0 .none:=by
  have:=Heap.get?_push_size (s.heap.push {cls:=.type "tuple_iterator",data:=.fields #[.ref l,.int 0 0]})
   (o:={cls:=.type "enumerate",data:=.fields #[.none,.bool false,.ref s.heap.objs.size,rawInt 0,.none,.none]}) rfl
  rw[hz]at this;exact this
 refine⟨⟨_,he,rfl⟩,h _ he ⟨_,Heap.get?_push_of_some _ (Heap.get?_push_size _ rfl),rfl,rfl⟩ (by rw[Heap.size_push,hz]) λb o x=>Heap.get?_push_of_some _ (Heap.get?_push_of_some _ x)⟩
noncomputable def IteT (K:PySem.W.Frag)(a:Addr):It :=
 ⟨λi H=>∃(xs:List V) (x:V),SqT K H a xs/\xs[i]?=some x,λi H v H'=>∃T x,v=.ref T/\H T=none/\H'=upd H T (.tup [.int (i:Nat),x])/\∀xs,SqT K H a xs->xs[i]?=some x,λi H=>∃xs:List V,SqT K H a xs/\xs.length=i⟩
theorem Zcv {P:Program}{w:World}{K:PySem.W.Frag}{elts:List Expr}{kk:Nat}{tpos:Pos}(a e it:Addr) :
  Turn P w K (.Tuple elts kk tpos) (IteT K a) [e,it] e (λi h=>(∃old,IsEnum h e it ((i:Nat):Int) old)/\h.IsTupleIter it a i/\e≠it) where
 mem:=by simp
 obj:=λi h st b hb=>by
  obtain⟨⟨old,he⟩,⟨o,ho,hc,hd⟩,_⟩:=st
  have e':b=e\/b=it:=by simpa using hb
  rcases e' with z | z
  ·rw[z];exact⟨_,he,λv q=>nomatch q⟩
  ·rw[z];exact⟨o,ho,λv q=>by rw[hd]at q;cases q⟩
 keep:=λi h h' st k=>let ⟨⟨old,he⟩,hi,hne⟩:=st;⟨⟨old,k e (by simp) _ he⟩,hi.at λo q=>k it (by simp) o q,hne⟩
 item:=by
  intro X hP hw hK hc i pins s σ H E I hf st hg
  subst hP hw hK
  obtain⟨⟨old,he⟩,hit,hne⟩:=st
  obtain⟨xs,x,hq,hx⟩:=hg
  obtain⟨its,rv,p,hz⟩:=I.tuple hq
  obtain⟨u,hu,ru⟩:=rv.get hx
  have hel:e<s.heap.objs.size:=Heap.lt_size he
  have hil:it<s.heap.objs.size:=by obtain⟨_,q,_⟩:=hit;exact Heap.lt_size q
  have hpT:s.heap.IsTuple a its.toArray:=p
  have hai:a≠it:=by
   obtain⟨o1,q1,c1,d1⟩:=hit
   obtain⟨o2,q2,c2,_⟩:=hpT
   intro z
   rw[z,q1]at q2
   cases q2
   rw[c1]at c2
   exact absurd c2 (by decide)
  have hae:a≠e:=by
   obtain⟨o2,q2,c2,_⟩:=hpT
   intro z
   rw[z,he]at q2
   cases q2
   have c3:Value.type "enumerate"=Value.type "tuple":=c2
   exact absurd c3 (by decide)
  have hlt:i<its.toArray.size:=by
   have:=(List.getElem?_eq_some_iff.mp hu).1
   simpa using this
  refine wpAny_pyNext_enum_itemD (Z0i (A:=X.A.in1) (I.ok.hd hc) it a hai its.toArray) he ⟨hit,hpT⟩ hlt hne (by simp;exact⟨hne,λz=>hae z.symm⟩) λx' h' tk hx' ho hst' hT hsz hk=>?_
  have exu:x'=u:=by
   have q1:its.toArray[i]?=some x':=hx'
   have q2:its.toArray[i]?=some u:=by simpa using hu
   rw[q1]at q2
   exact Option.some.inj q2
  subst exu
  have hit':=hst'.1
  refine⟨_,rfl,wpAny_letOwnedTupleGo_enum (s:={s with heap:=h',toks:=tk+1}) ho λh'' he' sb=>?_⟩
  have hT2:h''.get? s.heap.objs.size=some {cls:=.type "tuple",data:=.seq #[.int i tk,x']}:=(sb.2 _ (Nat.ne_of_gt hel)).trans hT
  have new:ObjOk X.prog X.w (upd H s.heap.objs.size (.tup [.int (i:Nat),x])) h'' s.heap.objs.size (.tup [.int (i:Nat),x]) :=
   ⟨by show 2<=sizeLine;decide,[.int i tk,x'],.cons ⟨_,rfl⟩ (.cons ru .nil),⟨_,hT2,rfl,_,rfl⟩⟩
  have I1:Inv X pins σ (upd H s.heap.objs.size (.tup [.int (i:Nat),x])) {s with heap:=h'',toks:=tk+1} :=
   I.turnedNew (ch:=[e,it]) (λb ob hb q=>(sb.2 b (λz=>hb (by simp[z]))).trans (hk b ob (λz=>hb (by simp[z])) (λz=>hb (by simp[z])) q)) hf (Nat.le_refl _) new
  refine⟨.ref s.heap.objs.size,_,I1,rfl,⟨_,x,rfl,I.hok.fresh (Nat.le_refl _),rfl,λys hy=>by rw[I.tuple_inj hy hq];exact hx⟩,⟨⟨x',?_⟩,hit'.at λo q=>(sb.2 it (Ne.symm hne)).trans q,hne⟩,λb hb=>?_⟩
  ·have e1:((i+1:Nat):Int)=(i:Int)+1:=by omega
   rw[e1];exact he'
  ·have hb':b<s.heap.objs.size:=by
    have e':b=e\/b=it:=by simpa using hb
    rcases e' with z | z
    ·rw[z];exact hel
    ·rw[z];exact hil
   rw[Zk (Nat.ne_of_lt hb')]
   exact(hf b hb).1
 done:=by
  intro X hP hw hK hc i pins s σ H E I hf st hg
  subst hP hw hK
  obtain⟨⟨old,he⟩,hit,hne⟩:=st
  obtain⟨xs,hq,hx⟩:=hg
  obtain⟨its,rv,p,hz⟩:=I.tuple hq
  obtain⟨f0,f1,f2,f3,f4,f5⟩:=hf it (by simp)
  have hl:=rv.length
  have hpT:s.heap.IsTuple a its.toArray:=p
  have hai:a≠it:=by
   obtain⟨o1,q1,c1,d1⟩:=hit
   obtain⟨o2,q2,c2,_⟩:=hpT
   intro z
   rw[z,q1]at q2
   cases q2
   rw[c1]at c2
   exact absurd c2 (by decide)
  have hin:i=its.toArray.size:=by rw[List.size_toArray];omega
  exact wpAny_pyNext_enum_endD (Z0i (A:=X.A.in1) (I.ok.hd hc) it a hai its.toArray) he ⟨by rw[<-hin];exact hit,hpT⟩ λh' eb=>⟨rfl,I.turned (t':=s.toks) (λb o hb q=>eb b o hb q) f0 f1 f3 f4 f5⟩
 self:=λA i s Q E st h=>let ⟨⟨_,he⟩,_⟩:=st;wpAny_pyIter_enum he h
noncomputable def Zl3 (K:PySem.W.Frag)(ta:TA):TI:=λσ H R=>ta σ H λvs H1=>∃a xs,vs=[.ref a]/\SqT K H1 a xs/\R (IteT K a) H1
theorem Zhf {X:Cx}{e:Expr}{ta:TA}{p pos tpos:Pos}{elts:List Expr}{kk:Nat}(hg:Gl X "enumerate")(hm:X.mg "enumerate"=none)(ha:PA X [e] ta)(hs:starEach [e] X.env=[(false,eval e X.env)]:=by rfl) :
  PI X (.Tuple elts kk tpos) (.Call (.Name "enumerate" p) [e] [] pos) (Zl3 X.K ta):=by
 intro pins s σ H R I h
 refine Call_ (Td I hg hm boot_enumerate (PyProof.Rows.callWith_type1 (thn (ha pos pins s σ H _ I h) λus s1 ⟨vs,H1,I1,r1,q1⟩=>?_) hs rfl))
 obtain⟨a,xs,ex,hq,q⟩:=q1
 subst ex
 cases r1 with
 |cons r rr =>
  cases rr
  cases r
  obtain⟨its,rv,p',hz⟩:=I1.tuple hq
  refine Ra (show s1.heap.IsTuple a its.toArray from p') λh' he hit hsz hk=>wpAny_pyIter_enum he ?_
  have I2:Inv X pins σ H1 {s1 with heap:=h'}:=I1.kept (t':=s1.toks) hk
  refine⟨s1.heap.objs.size+1,[s1.heap.objs.size+1,s1.heap.objs.size],_,_,H1,rfl,I2,Zcv a (s1.heap.objs.size+1) s1.heap.objs.size,⟨⟨.none,he⟩,hit,Nat.succ_ne_self _⟩,λb hb=>?_,q⟩
  have e':b=s1.heap.objs.size+1\/b=s1.heap.objs.size:=by simpa using hb
  have hle:s1.heap.objs.size<=b:=by
   rcases e' with z | z
   ·rw[z];exact Nat.le_add_right _ _
   ·rw[z];exact Nat.le_refl _
  exact I1.fpOk hle (I1.hok.fresh hle)
theorem Zfi {K:PySem.W.Frag}{a:Addr}{xs:List V}{g:TG}{tb:TS}{D:Ends}{σ:L2.St}{H:Hp}(Pv:Nat->L2.St->Hp->Prop)(h0:Pv 0 σ H)(hl:∀i σ H,i<=xs.length->Pv i σ H->SqT K H a xs)
  (hs:∀(i:Nat) (x:V) (T:Addr) (σ:L2.St) (H:Hp),xs[i]?=some x->Pv i σ H->H T=none->g (.ref T) σ (upd H T (.tup [.int (i:Nat),x])) λσ2 H2=>tb {D with nx:=Pv (i+1),ct:=Pv (i+1),bk:=D.nx} σ2 H2) (hd:∀σ H,Pv xs.length σ H->D.nx σ H) :
  ∃W:Nat->Nat->L2.St->Hp->Prop,(∃m,W 0 m σ H)/\∀i m σ H,W i m σ H->
   ((IteT K a).stop i H/\D.nx σ H)\/((IteT K a).go i H/\∃N:L2.St->Hp->Prop,(∀σ' H',N σ' H'->∃m',m'<m/\W (i+1) m' σ' H')/\∀x H',(IteT K a).yld i H x H'->g x σ H' λσ2 H2=>tb {D with nx:=N,ct:=N,bk:=D.nx} σ2 H2):=by
 refine⟨λi m σ H=>m=xs.length-i/\i<=xs.length/\Pv i σ H,⟨xs.length,by simp,Nat.zero_le _,h0⟩,?_⟩
 rintro i m σ H ⟨rfl,hi,p⟩
 have q:=hl i σ H hi p
 by_cases hlt:i<xs.length
 ·refine .inr ⟨⟨xs,xs[i],q,by simp[hlt]⟩,Pv (i+1),λσ' H' p'=>⟨xs.length-(i+1),by omega,rfl,hlt,p'⟩,λx H' y=>?_⟩
  obtain⟨T,z,rfl,hT,rfl,y⟩:=y
  exact hs i z T σ H (y xs q) p hT
 ·have e:i=xs.length:=by omega
  subst e
  exact .inl ⟨⟨xs,q,rfl⟩,hd σ H p⟩
theorem Zbh {K:PySem.W.Frag}{a:Addr}{xs:List V}{g:TG}{tb:TS}{D:Ends}{σ:L2.St}{H:Hp}(Pv:Nat->L2.St->Hp->Prop)(h0:Pv 0 σ H)(hl:∀i σ H,i<=xs.length->Pv i σ H->SqL K H a xs)
  (hs:∀(i:Nat) (x:V) (T:Addr) (σ:L2.St) (H:Hp),xs[i]?=some x->Pv i σ H->H T=none->g (.ref T) σ (upd H T (.tup [.int (i:Nat),x])) λσ2 H2=>tb {D with nx:=Pv (i+1),ct:=Pv (i+1),bk:=D.nx} σ2 H2) (hd:∀σ H,Pv xs.length σ H->D.nx σ H) :
  ∃W:Nat->Nat->L2.St->Hp->Prop,(∃m,W 0 m σ H)/\∀i m σ H,W i m σ H->
   ((Ite K a).stop i H/\D.nx σ H)\/((Ite K a).go i H/\∃N:L2.St->Hp->Prop,(∀σ' H',N σ' H'->∃m',m'<m/\W (i+1) m' σ' H')/\∀x H',(Ite K a).yld i H x H'->g x σ H' λσ2 H2=>tb {D with nx:=N,ct:=N,bk:=D.nx} σ2 H2):=by
 refine⟨λi m σ H=>m=xs.length-i/\i<=xs.length/\Pv i σ H,⟨xs.length,by simp,Nat.zero_le _,h0⟩,?_⟩
 rintro i m σ H ⟨rfl,hi,p⟩
 have q:=hl i σ H hi p
 by_cases hlt:i<xs.length
 ·refine .inr ⟨⟨xs,xs[i],q,by simp[hlt]⟩,Pv (i+1),λσ' H' p'=>⟨xs.length-(i+1),by omega,rfl,hlt,p'⟩,λx H' y=>?_⟩
  obtain⟨T,z,rfl,hT,rfl,y⟩:=y
  exact hs i z T σ H (y xs q) p hT
 ·have e:i=xs.length:=by omega
  subst e
  exact .inl ⟨⟨xs,q,Nat.le_refl _⟩,hd σ H p⟩
theorem Mm (l:Addr)(items:Array Value)(n:Nat)(b:Addr)(items2:Array Value)(n2:Nat)(dd:Option Addr)(sl:Array (Option Value))(hs0:¬(!items.isEmpty&&Builtin.List.listTooLong (items.size+items2.size))=true)(hs1:items.size<=sizeLine)(hs2:items.size+items2.size<=sizeLine+1) :
  Meets (Builtin.«list.extend» ⟨[.ref l,.ref b],[]⟩) (λ_ R s=>s.heap.get? l=some {cls:=.type "list",dict:=none,data:=.seq items n,slots:=#[]}/\s.heap.get? b=some {cls:=.type "tuple",dict:=dd,data:=.seq items2 n2,slots:=sl}/\R (.ok (.ret Value.none)) {s with heap:=s.heap.update l (Obj.mapSeq λx=>x++items2),toks:=s.toks}) :=
 .of_wp λprog w A R s h=>by
  obtain⟨hp,g,d,tk,os⟩:=s
  obtain⟨hl,hb,h⟩:=h
  have f1:=AutoSeq1.idx_int
  have f2:=AutoSeq1.sub_tuple_tuple
  have f3:=AutoSeq1.sub_list_list
  have f4:=AutoSeq1.sub_tuple_list
  have f5:=AutoSeq1.sub_list_tuple
  have hz':(items++items2).size<=sizeLine+1:=by rw[Array.size_append];exact hs2
  wp_walk using (wpAny_updateSeq hl rfl (hz:=hs1) (_hz':=hz')),AutoSeq1.wpAny_loadPart' hl,AutoSeq1.wpAny_loadPart' hb
  exact⟨_,rfl,h⟩
noncomputable section
variable {X:Cx}
noncomputable def Zhg (K:PySem.W.Frag):V->List V->Hp->VK->Prop:=λx vs H Q=>∃l b xs zs,x=.ref l/\vs=[.ref b]/\H l=some (.lst xs)/\SqT K H b zs/\xs.length+zs.length<=sizeLine/\Q .non (upd H l (.lst (xs++zs)))
theorem Zcw:MtM X "list.extend" (Zhg X.K):=by
 intro pins s σ H x vs v us Q I rx rv h
 obtain⟨l,b,xs,zs,rfl,rfl,hH,hB,hz,q⟩:=h
 cases rx
 obtain⟨u,rfl,ru⟩:=rv.one
 cases ru
 obtain⟨z,its,n,r,hl,e⟩:=I.lstM hH
 obtain⟨its2,r2,p2,z2⟩:=I.tuple hB
 obtain⟨⟨cls,dd,data,sl⟩,ho,hc,n2,hd⟩:=id p2
 simp only at hc hd
 subst hc hd
 have hl2:=r2.length
 have hsz:its.toArray.size+its2.toArray.size<=sizeLine:=by rw[List.size_toArray,List.size_toArray];omega
 have hlong:¬(!its.toArray.isEmpty&&Builtin.List.listTooLong (its.toArray.size+its2.toArray.size))=true:=by
  rw[Zb3 hsz,Bool.and_false]
  exact Bool.false_ne_true
 refine call_meets F.slot_list_extend ⟨_,e,rfl⟩ F.entry_list_extend (F.args_list_extend_2 _ _)
  (Mm l its.toArray n b its2.toArray n2 dd sl hlong (by rw[List.size_toArray];omega) (by omega)) ⟨e,ho,?_⟩
 refine⟨.non,_,I.lset (its':=its++its2) hH e (by simp) (r.append r2) ?_,rfl,q⟩
 rw[List.length_append]
 omega
end
end L2
end
theorem Sl.gse {a:Type} {l:List a} {i:Nat} {x:a}:l[i]?=some x<->∃h:i<l.length,l[i]=x:=List.getElem?_eq_some_iff
noncomputable section
open List (length_map length_append length_cons length_take length_drop length_singleton length_range length_reverse length_nil getElem?_map getElem?_eq_getElem getElem?_append_left getElem?_append_right getElem?_eq_none mem_of_getElem? mem_iff_getElem? mem_cons_of_mem mem_cons_self mem_singleton mem_append mem_map getD_eq_getElem?_getD take_length map_append append_nil append_assoc filter_cons not_mem_nil nodup_cons nodup_nil isEmpty_iff getElem?_replicate length_replicate)
open Vawctb (Graph Bounds isLine inRange firstCache touchAll touchBounds touches momentsAt toInts isLocked readNodes cacheRow Moment setAt boundsOf missCount classOf wayRow unlike plainShape nextOf joinBounds agesRow wayWhere older joinAll boundsOfState readGraph stoodThen missOf firstAlone boundsAt withLocked NODES CHOICES WAYS EDGES touchLine behindMoment)
set_option hygiene false
local macro_rules | `(#[5])=>`(⟨rfl,rfl,rfl,by decide +kernel,rfl,by decide +kernel,by decide +kernel⟩)
local macro_rules | `(tactic| exists 0,$t)=>`(tactic| (have SC:=$t;refine F.ok SC (fun vs H Q E h=>by first | (obtain ⟨rfl,_⟩:=h;rfl) | (obtain ⟨_,rfl,_⟩:=h;rfl) | (obtain ⟨_,_,rfl,_⟩:=h;rfl) | (obtain ⟨_,_,_,rfl,_⟩:=h;rfl) | (obtain ⟨_,_,_,_,rfl,_⟩:=h;rfl) | (obtain ⟨_,_,_,_,_,rfl,_⟩:=h;rfl) | (obtain ⟨_,_,_,_,_,_,rfl,_⟩:=h;rfl) | (obtain ⟨_,_,_,_,_,_,_,rfl,_⟩:=h;rfl) | (obtain ⟨_,_,_,_,_,_,_,_,rfl,_⟩:=h;rfl) | (obtain ⟨_,_,_,_,_,_,_,_,_,rfl,_⟩:=h;rfl) | (obtain ⟨_,_,_,_,_,_,_,_,_,_,rfl,_⟩:=h;rfl) | (obtain ⟨_,_,us,rfl,hl,_⟩:=h;exact congrArg (·+1) hl)) (fun cdv A outer s H vs Q E hr h=>?_)))
local macro_rules | `(#[0,$n:num,$e])=>`(Jo (i:=$n) SC.nd rfl (Or.inl rfl) $e)
local macro_rules | `(#[1,$n:num])=>`(Zdu (i:=$n) SC.nd rfl (Or.inl rfl))
local macro_rules | `(#[2])=>`((hr.mono (by decide)))
local macro_rules | `(#[3,$a,$b])=>`(Zjc PySem.F.plainAttrs_list PySem.F.slot_list_append PySem.F.type_list_append Zeg $a $b)
local macro_rules | `(#[4,$a,$b])=>`(Zjc PySem.F.plainAttrs_list PySem.F.slot_list_extend PySem.F.type_list_extend Zeh $a $b)
local macro_rules | `(#[6,$a])=>`(Yi Z6q rfl B.n_len Zfl $a)
local macro_rules | `(#[40])=>`(Kn P w K mg base "room_for" 2 ["cache","line"] (Zim C))
local macro_rules | `(#[41])=>`(Kn P w K mg base "are_lines" 1 ["numbers"] (Zfo K))
local macro_rules | `(#[42])=>`(Kn P w K mg base "moments_held" 7 ["held","watched"] (spMH CH C CG CM))
local macro_rules | `(#[43])=>`(Kn P w K mg base "is_hit" 1 ["cache","state","line"] (Zjt C))
local macro_rules | `(#[44])=>`(Kc P w K mg base "Bounds" CB 1 ["self","sure","possible"] (Vo CB 2 Tv))
local macro_rules | `(#[45])=>`(Kn P w K mg base "moments_at" 1 ["moments","node"] (spMA CM))
local macro_rules | `(#[46])=>`(Kc P w K mg base "Cache" C 1 ["self","sets","ways","rule","locked"] (Vo C 4 Z0j))
local macro_rules | `(#[47])=>`(Kn P w K mg base "has_node" 1 ["graph","number"] (Zl7 CG))
local macro_rules | `(#[48])=>`(Kn P w K mg base "key_of" 1 ["moment"] (Zk1 CM))
local macro_rules | `(#[49])=>`(Kn P w K mg base "passage_from_empty" 5 ["cache","lines"] (Zin K C CP))
local macro_rules | `(#[50])=>`(Kn P w K mg base "state_at_first" 6 ["held"] (Zgo CH C CG))
local macro_rules | `(#[51])=>`(Kn P w K mg base "share_set" 1 ["cache","line","other"] (Zfn C))
local macro_rules | `(#[52])=>`(Kn P w K mg base "touched_state" 3 ["cache","state","line"] (Zfs C))
local macro_rules | `(#[53])=>`(Kn P w K mg base "touched_in_order" 4 ["cache","state","lines"] (Zft K C CP))
local macro_rules | `(#[54])=>`(Kn P w K mg base "aged" 3 ["cache","ages","line","oldest"] (Zip C))
local macro_rules | `(#[55])=>`(Kn P w K mg base "joined_if_any" 4 ["one","other"] (Z7u CB))
local macro_rules | `(#[56])=>`(Kc P w K mg base "Graph" CG 1 ["self","lines","edges"] (Vo CG 2 Z0r))
local macro_rules | `(#[57])=>`(Kc P w K mg base "Moment" CM 1 ["self","node","state","stood","before","line"] (Vo CM 5 Mf))
local macro_rules | `(#[58])=>`(Kn P w K mg base "lines_or_none" 1 ["graph","node"] (spLN CG))
local macro_rules | `(#[59])=>`(Kn P w K mg base "moments_behind" 4 ["cache","graph","moment","line","watched"] (spMB C CG CM))
local macro_rules | `(#[60])=>`(Kn P w K mg base "hits_in" 2 ["cache","lines","moments"] (spHI C CM))
local macro_rules | `(#[61])=>`(Kn P w K mg base "class_by_moments" 3 ["cache","graph","moments","node"] (spCM C CG CM))
local macro_rules | `(#[62])=>`(Kn P w K mg base "change_locked" 3 ["held","locked"] (Zc6 CH C CG))
local macro_rules | `(#[63])=>`(Kn P w K mg base "state_told" 1 ["state"] (Zc7 K))
local macro_rules | `(#[64])=>`(Kn P w K mg base "rounds_held" 9 ["held"] (Zc8 CH C CG CR CB))
local macro_rules | `(#[65])=>`(Kc P w K mg base "Passage" CP 1 ["self","misses","state"] (Vo CP 2 Pl))
local macro_rules | `(#[66])=>`(Kn P w K mg base "empty_state" 1 ["cache"] (Zfp C))
local macro_rules | `(#[67])=>`(Kn P w K mg base "joined_sure" 1 ["one","other"] Zfw)
local macro_rules | `(#[68])=>`(Kn P w K mg base "joined_possible" 1 ["one","other"] Zfx)
local macro_rules | `(#[69])=>`(Kn P w K mg base "joined" 3 ["one","other"] (Zio CB))
local macro_rules | `(#[70])=>`(Kn P w K mg base "touched_by_rule_0" 4 ["cache","bounds","line"] (Zbm C CB false))
local macro_rules | `(#[71])=>`(Kn P w K mg base "touched_by_rule_1" 4 ["cache","bounds","line"] (Zbm C CB true))
local macro_rules | `(#[72])=>`(Kn P w K mg base "touched_bounds" 5 ["cache","bounds","line"] (Zbn C CB))
local macro_rules | `(#[73])=>`(Kn P w K mg base "bounds_behind" 6 ["cache","bounds","lines"] (Zbo K C CB))
local macro_rules | `(#[74])=>`(Kn P w K mg base "bounds_of_state" 3 ["state"] (Z7t CB))
local macro_rules | `(#[75])=>`(Kn P w K mg base "one_round" 7 ["cache","graph","at_first","before"] (Zg1 C CB CG))
local macro_rules | `(#[76])=>`(Kn P w K mg base "are_same" 1 ["one","other"] (Ziq CB))
local macro_rules | `(#[77])=>`(Kc P w K mg base "Rounds" CR 1 ["self","number","before"] (Vo CR 2 Nw))
local macro_rules | `(#[78])=>`(Kn P w K mg base "lines_told_at" 2 ["row","place"] (Zbr K))
local macro_rules | `(#[79])=>`(Kn P w K mg base "node_lines_told" 3 ["row"] (Zg4 K))
local macro_rules | `(#[80])=>`(Kn P w K mg base "edges_told" 1 ["numbers","nodes"] (Zg6 K))
local macro_rules | `(#[81])=>`(Kn P w K mg base "nodes_behind" 1 ["graph","node"] (spNB CG))
local macro_rules | `(#[82])=>`(Kn P w K mg base "way_to" 1 ["moment"] (spWT CM))
local macro_rules | `(#[83])=>`(Kc P w K mg base "Step" CS 1 ["self","miss","places"] (Vo CS 2 Z3p))
local macro_rules | `(#[84])=>`(Kn P w K mg base "step_by" 5 ["cache","graph","moment","line","places"] (spSB P w C CG CM CS))
local macro_rules | `(#[85])=>`(Kn P w K mg base "most_by_step" 1 ["step","most"] (spBS CS))
local macro_rules | `(#[86])=>`(Kn P w K mg base "places_of" 2 ["moments"] (spPl P w CM))
local macro_rules | `(#[87])=>`(Kn P w K mg base "steps_from" 6 ["cache","graph","moment","places"] (spSF P w C CG CM CS))
local macro_rules | `(#[88])=>`(Kn P w K mg base "most_by_steps" 2 ["steps","most"] (spBT CS))
local macro_rules | `(#[89])=>`(Kn P w K mg base "graph_told" 4 ["row"] (Zg7 K CG))
local macro_rules | `(#[90])=>`(Kn P w K mg base "all_rounds" 8 ["cache","graph","state"] (Zbq C CB CG CR))
local macro_rules | `(#[91])=>`(Kn P w K mg base "ages_told" 1 ["ages"] Zix)
local macro_rules | `(#[92])=>`(Kn P w K mg base "all_moments" 5 ["cache","graph","state","watched"] (spAM C CG CM))
local macro_rules | `(#[93])=>`(Kn P w K mg base "class_by_bounds" 1 ["cache","lines","bounds"] (spCB C CB))
local macro_rules | `(#[94])=>`(Kn P w K mg base "is_neither" 4 ["cache","graph","moments","node"] (spIN C CG CM))
local macro_rules | `(#[95])=>`(Kn P w K mg base "first_way" 2 ["cache","graph","moments","node","wanted"] (spFW C CG CM))
local macro_rules | `(#[96])=>`(Kn P w K mg base "way_told" 1 ["way"] (spTd K))
local macro_rules | `(#[97])=>`(Kn P w K mg base "misses_again" 3 ["cache","graph","moments","node"] (spAg C CG CM))
local macro_rules | `(#[98])=>`(Kn P w K mg base "most_misses" 7 ["cache","graph","moments","nodes"] (spMM C CG CM))
local macro_rules | `(#[99])=>`(Kc P w K mg base "Held" CH 3 ["self"] (Z3q CH C CG))
local macro_rules | `(#[100])=>`(Kn P w K mg base "numbers_end" 1 ["calls","place"] (spEn K))
local macro_rules | `(#[101])=>`(Kn P w K mg base "numbers_begin" 1 ["calls","place"] (spBg K))
local macro_rules | `(#[102])=>`(Kn P w K mg base "answer_of" 11 ["held","call","numbers"] (spAO CH C CG))
set_option hygiene true
namespace Sl
open PySem PySem.Spec PyProof.Rows L2
structure Kn (P:Program)(w:World)(K:W.Frag)(mg:Str->Option Value)(base:Heap)(x:Str)(k:Nat)(ps:List Str)(sp:Sp):Prop where
 ex:∃f fd,FnOk P w K mg base CX0 k f fd ps sp/\mg x=some (.ref f)/\W.keepIn K (.ref f)=true/\Binds K fd ps []
structure Kc (P:Program)(w:World)(K:W.Frag)(mg:Str->Option Value)(base:Heap)(x:Str)(C:Addr)(k:Nat)(ps:List Str)(sp:Sp):Prop where
 ex:∃f fd,FnOk P w K mg base CX0 k f fd ps sp/\mg x=some (.ref C)/\Mk K C f/\Binds K fd ps []
noncomputable section
variable {X:Cx}{x:Str}{k:Nat}{ps:List Str}{sp:Sp}{p pos:Pos}{e:Expr}{es:List Expr}{t:TA}
theorem Zs (F:Kn X.prog X.w X.K X.mg X.base x k ps sp)(hr:Room k X.A)(ha:PA X (e::es) t)(hg:Gl X x:=by rfl)(hdb:(x==("__debug__":Str))=false:=by decide)
  (he:starEach (e::es) X.env=(false,eval e X.env)::starEach es X.env:=by rfl) (hpl:(backTo pos (starEach es X.env)).any (·.1)=false:=by rfl) :
  PE X (.Call (.Name x p) (e::es) [] pos) (Zh1 sp [] E0 t):=by
 obtain⟨f,fd,ok,hm,hk,hb⟩:=F.ex
 exact Zj7 ok hr hg hm hk hb .nil Zh7 ha hdb he hpl
theorem Wz {C:Addr}(F:Kc X.prog X.w X.K X.mg X.base x C k ps sp)(hr:Room (k+1) X.A)(ha:PA X (e::es) t)(hg:Gl X x:=by rfl)(hdb:(x==("__debug__":Str))=false:=by decide)
  (he:starEach (e::es) X.env=(false,eval e X.env)::starEach es X.env:=by rfl) (hpl:(backTo pos (starEach es X.env)).any (·.1)=false:=by rfl) :
  PE X (.Call (.Name x p) (e::es) [] pos) (Zj6 C sp [] E0 t):=by
 obtain⟨f,fd,ok,hm,M,hb⟩:=F.ex
 exact Zj8 M ok hr hg hm hb .nil Zh7 ha hdb he hpl
end
noncomputable def Zl (l:List Nat):List V:=l.map λ(n:Nat)=>V.int (n:Int)
theorem Zi (l:List Nat):(Zl l).length=l.length:=by unfold Zl;rw[length_map]
theorem Zq {H:Hp}{a:Addr}{o:HO}(h:H a=none):Same H (upd H a o):=λb o' e=>by rw[Zk (Zm e h)];exact e
theorem newE {H:Hp}{a:Addr}(h:H a=none)(o:HO):Same H (upd H a o)/\upd H a o a=some o:=⟨Zq h,Ze⟩
structure CacheF (H:Hp)(fs:List (Str×V))(sh:Vawctb.Shape):Prop where
 sets:fs.lookup ("sets":Str)=some (.int (sh.sets:Nat))
 ways:fs.lookup ("ways":Str)=some (.int (sh.ways:Nat))
 rule:fs.lookup ("rule":Str)=some (.int (Vawctb.bit sh.oldest:Nat))
 locked:∃la,fs.lookup ("locked":Str)=some (.ref la)/\H la=some (.lst (Zl sh.locked))
noncomputable def CacheAt (C:Addr)(H:Hp)(p:Addr)(sh:Vawctb.Shape):Prop:=∃dx fs,H p=some (.ins C dx fs)/\CacheF H fs sh
theorem CacheAt.same {C:Addr}{H H':Hp}{p:Addr}{sh:Vawctb.Shape}(h:CacheAt C H p sh)(s:Same H H'):CacheAt C H' p sh:=by
 obtain⟨dx,fs,h1,h2,h3,h4,la,h5,h6⟩:=h
 exact⟨dx,fs,s _ _ h1,h2,h3,h4,la,h5,s _ _ h6⟩
noncomputable def StateAt (H:Hp)(p:Addr)(c:Vawcta.Cache):Prop:=∃as:List Addr,H p=some (.tup (as.map V.ref))/\as.length=c.length/\∀(i:Nat) (a:Addr) (l:List Nat),as[i]?=some a->c[i]?=some l->H a=some (.tup (Zl l))
theorem StateAt.same {H H':Hp}{p:Addr}{c:Vawcta.Cache}(h:StateAt H p c)(s:Same H H'):StateAt H' p c:=by
 obtain⟨as,h1,h2,h3⟩:=h
 exact⟨as,s _ _ h1,h2,λi a l e1 e2=>s _ _ (h3 i a l e1 e2)⟩
structure ShOk (sh:Vawctb.Shape):Prop where
 sets:sh.sets=1\/sh.sets=2\/sh.sets=4
 ways:1<=sh.ways/\sh.ways<=4
 lt:∀y∈sh.locked,y<32
 nd:sh.locked.Nodup
 len:sh.locked.length<=32
theorem ShOk.pos {sh:Vawctb.Shape}(h:ShOk sh):0<sh.sets:=by
 rcases h.sets with e | e | e <;> omega
theorem Zg {n:Nat}(h:n<=100000):n<sizeLine:=by
 show n<2 ^ 24
 omega
theorem Xm (a b:Nat):decide (V.int (a:Int)=V.int (b:Int))=decide (a=b):=by
 rw[Bool.eq_iff_iff]
 simp only[decide_eq_true_eq,V.int.injEq]
 omega
theorem Zjp (x y s:Nat):decide (V.int ((x:Int) % (s:Int))=V.int ((y:Int) % (s:Int)))=decide (x % s=y % s):=by
 have e1:((x:Int) % (s:Int))=((x % s:Nat):Int):=by omega
 have e2:((y:Int) % (s:Int))=((y % s:Nat):Int):=by omega
 rw[e1,e2]
 exact Xm _ _
theorem Xb (l:List Nat):(Zl l).all Z1o=true:=by
 unfold Zl
 rw[List.all_map]
 exact List.all_eq_true.mpr λ_ _=>rfl
theorem Xi (x:Nat):∀(l:List Nat),inV (.int (x:Int)) (Zl l)=l.contains x
 |[]=>rfl
 |a::l=>by
  have ih:=Xi x l
  show(eqV (.int (a:Int)) (.int (x:Int))||inV (.int (x:Int)) (Zl l))=_
  rw[ih,List.contains_cons]
  congr 1
  show((a:Int)==(x:Int))=(x==a)
  rw[Bool.eq_iff_iff]
  simp only[beq_iff_eq]
  omega
theorem Yr {l:List Nat}{i:Nat}{y:V}(h:(Zl l)[i]?=some y):∃n:Nat,l[i]?=some n/\y=.int (n:Int):=by
 unfold Zl at h
 rw[getElem?_map]at h
 cases e:l[i]? with
 |none =>
  rw[e]at h
  cases h
 |some n =>
  rw[e]at h
  exact⟨n,rfl,(Option.some.inj h).symm⟩
theorem Zw {α:Type}:∀{l:List α} {i:Nat} {x:α},l[i]?=some x->l.take (i+1)=l.take i++[x]
 |[],i,x,h=>by simp at h
 |a::l,0,x,h=>by
  have e:a=x:=Option.some.inj h
  subst e
  rfl
 |a::l,i+1,x,h=>by
  have ih:=Zw (l:=l) (i:=i) (x:=x) h
  show a::l.take (i+1)=a::l.take i++[x]
  rw[ih]
  rfl
theorem Ub {K:W.Frag}{a:Addr}{xs:List V}{g:TG}{te:TE}{vs:List Nat}{σ:L2.St}{H1:Hp}{D:Addr}{Qd:Hp->Prop}(ys:List V)(hy:ys.length=xs.length)(hD:H1 D=none)(ha:SqL K H1 a xs)(hz:xs.length<sizeLine)
  (hs:∀(i:Nat) (x:V) (H:Hp) (R:VK),xs[i]?=some x->Same H1 H->(∀(y:V) (H4:Hp),ys[i]?=some y->Same H H4->R y H4)->g x (wipe σ vs) H λσ2 H2=>wipe σ2 vs=wipe σ vs/\te σ2 H2 R)
  (hd:∀H,Same H1 H->H D=some (.lst ys)->Qd H) :
  ∃W:Nat->Nat->Hp->Prop,(∃m,W 0 m (upd H1 D (.lst [])))/\∀i m H,W i m H->
   ((Itl K a).stop i H/\Qd H)\/((Itl K a).go i H/\∃Nx:Hp->Prop,(∀H',Nx H'->∃m',m'<m/\W (i+1) m' H')/\∀x H',(Itl K a).yld i H x H'->g x (wipe σ vs) H' λσ2 H2=>wipe σ2 vs=wipe σ vs/\tYes σ2 H2 λb H3 =>
    if b=true then te σ2 H3 λy H4=>∃acc,H4 D=some (.lst acc)/\acc.length<sizeLine/\Nx (upd H4 D (.lst (acc++[y]))) else Nx H3):=by
 refine Rt (K:=K) (a:=a) (xs:=xs) (tt:=tYes) (λi H'=>Same H1 H'/\H' D=some (.lst (ys.take i))) ⟨Zq hD,Ze⟩ (λi H' _ ⟨s1,_⟩=>s1.seq ha) ?_ ?_
 ·rintro i x H' hi ⟨s1,hD'⟩
  refine hs i x H' _ hi s1 λy H4 hy4 s4=>⟨_,s4 _ _ hD',?_,λb o eb=>?_,?_⟩
  ·rw[length_take]
   omega
  ·rw[Zk (Zm eb hD)]
   exact s4 _ _ (s1 _ _ eb)
  ·rw[Ze,Zw hy4]
 ·rintro H' ⟨s1,hD'⟩
  rw[<-hy,take_length]at hD'
  exact hd H' s1 hD'
theorem Zfj {l:List Int}{i:Nat}{y:V}(h:(l.map V.int)[i]?=some y):∃n:Int,l[i]?=some n/\y=.int n:=by
 rw[getElem?_map]at h
 cases e:l[i]? with
 |none =>
  rw[e]at h
  cases h
 |some n =>
  rw[e]at h
  exact⟨n,rfl,(Option.some.inj h).symm⟩
noncomputable def Zm6:R2:=λx y H Q=>∃a b xs ys,x=.ref a/\y=.ref b/\H a=some (.tup xs)/\H b=some (.tup ys)/\xs.length+ys.length<=sizeLine/\∀(p:Addr) (H':Hp),H' p=some (.tup (xs++ys))->Same H H'->Q (.ref p) H'
theorem Zfk {X:Cx}:OpR X (binaryOp .Add) Zm6:=by
 intro pins s σ H x y v u Q I rx ry h
 obtain⟨a,b,xs,ys,rfl,rfl,ha,hb,hz,q⟩:=h
 by_cases hx:xs=[]
 ·subst hx
  exact Zjn pins s σ H _ _ v u Q I rx ry ⟨a,b,ys,rfl,rfl,SqT.of ha,SqT.of hb,q b H hb (Same.refl H)⟩
 ·refine Zja pins s σ H _ _ v u Q I rx ry ⟨a,b,xs,ys,rfl,rfl,SqT.of ha,SqT.of hb,hx,hz,λe=>?_,λe p hp=>?_⟩
  ·subst e
   exact q a H (by rw[append_nil];exact ha) (Same.refl H)
  ·exact q p _ Ze (Zq hp)
theorem Zhh {c:Prop}[Decidable c]{X A B:Prop}(d:Bool)(hx:(if d=true then A else B)->X)(h:if(decide c&&d)=true then A else B):if c then X else(if false=true then A else B):=by
 by_cases e:c
 ·rw[if_pos e]
  rw[decide_eq_true e,Bool.true_and]at h
  exact hx h
 ·rw[if_neg e]
  rw[decide_eq_false e,Bool.false_and]at h
  exact h
theorem Zjq {c:Prop}[Decidable c]{X A B:Prop}(d:Bool)(hx:(if d=true then A else B)->X)(h:if(decide c||d)=true then A else B):if c then(if true=true then A else B) else X:=by
 by_cases e:c
 ·rw[if_pos e]
  rw[decide_eq_true e,Bool.true_or]at h
  exact h
 ·rw[if_neg e]
  rw[decide_eq_false e,Bool.false_or]at h
  exact hx h
theorem Zik (xs:List V)(n:Nat):cutV xs none (some (n:Int))=xs.take n:=by
 unfold cutV
 rw[HT.sIx_none,HT.sIx_nat,List.drop_zero,Nat.sub_zero]
 by_cases h:n<=xs.length
 ·rw[Nat.min_eq_left h]
 ·rw[Nat.min_eq_right (by omega),List.take_of_length_le (Nat.le_refl _),List.take_of_length_le (by omega)]
theorem Zbi (xs:List V)(n:Nat):cutV xs (some (n:Int)) none=xs.drop n:=by
 unfold cutV
 rw[HT.sIx_none,HT.sIx_nat]
 by_cases h:n<=xs.length
 ·rw[Nat.min_eq_left h,List.take_of_length_le (by rw[length_drop];omega)]
 ·rw[Nat.min_eq_right (by omega),Nat.sub_self,List.take_zero,List.drop_of_length_le (by omega)]
theorem Z7m (xs:List V)(m n:Nat):cutV xs (some (m:Int)) (some (n:Int))=(xs.take n).drop m:=by
 unfold cutV
 rw[HT.sIx_nat,HT.sIx_nat,List.drop_take]
 by_cases h:m<=xs.length
 ·rw[Nat.min_eq_left h]
  by_cases h2:n<=xs.length
  ·rw[Nat.min_eq_left h2]
  ·rw[Nat.min_eq_right (by omega),List.take_of_length_le (by rw[length_drop];omega),List.take_of_length_le (by rw[length_drop];omega)]
 ·rw[show min m xs.length=xs.length by omega,List.drop_of_length_le (Nat.le_refl _),List.drop_of_length_le (show xs.length<=m by omega),List.take_nil,List.take_nil]
theorem Zcx (l:List Nat)(n:Nat):(Zl l).take n=Zl (l.take n):=by unfold Zl;rw[List.map_take]
theorem Zcy (x:Nat)(l:List Nat):Zl (x::l)=V.int (x:Int)::Zl l:=rfl
theorem Zu (l m:List Nat):Zl (l++m)=Zl l++Zl m:=by unfold Zl;rw[map_append]
theorem Zjr {α:Type}{l:List α}{n:Nat}{a:α}(h:n<l.length):l.set n a=l.take n++[a]++l.drop (n+1):=by
 rw[List.set_eq_take_append_cons_drop,if_pos h,append_assoc]
 rfl
theorem chg {H H':Hp}{m:Addr}{o:HO}(s:Same H H')(h:H m=none):Same H (upd H' m o)/\upd H' m o m=some o:=⟨λb u e=>by rw[Zk (Zm e h)];exact s b u e,Ze⟩
theorem Yl {H':Hp}{m:Addr}{o:HO}{b:Addr}{u:HO}(e:H' b=some u)(ne:b≠m):upd H' m o b=some u:=by rw[Zk ne];exact e
theorem Zfl:bootBuiltins "len"=some (.builtin "len"):=by decide +kernel
theorem Zbj:bootBuiltins "max"=some (.builtin "max"):=by decide +kernel
theorem Zl4:bootBuiltins "min"=some (.builtin "min"):=by decide +kernel
theorem Zbk:bootBuiltins "sum"=some (.builtin "sum"):=by decide +kernel
theorem Z3b:bootBuiltins "all"=some (.builtin "all"):=by decide +kernel
theorem Zil:bootBuiltins "any"=some (.builtin "any"):=by decide +kernel
theorem Zfm:bootBuiltins "sorted"=some (.builtin "sorted"):=by decide +kernel
theorem Zl5:bootBuiltins "set"=some (.type "set"):=by decide +kernel
theorem Z4r:bootBuiltins "dict"=some (.type "dict"):=by decide +kernel
theorem Zhi:bootBuiltins "tuple"=some (.type "tuple"):=by decide +kernel
theorem Zjs:bootBuiltins "list"=some (.type "list"):=by decide +kernel
structure Blt (mg:Str->Option Value):Prop where
 n_len:mg "len"=none
 n_max:mg "max"=none
 n_min:mg "min"=none
 n_sum:mg "sum"=none
 n_all:mg "all"=none
 n_any:mg "any"=none
 n_sorted:mg "sorted"=none
 n_set:mg "set"=none
 n_dict:mg "dict"=none
 n_tuple:mg "tuple"=none
 n_list:mg "list"=none
 n_range:mg "range"=none
 n_enumerate:mg "enumerate"=none
 n_zip:mg "zip"=none
noncomputable def top (i:Nat):Stmt:=PySem.Challenge.pw_surelines_s01_answers.main.body.getD i (.Pass ⟨0,0,0,0⟩)
abbrev Rx:Stmt:=top 5
abbrev Ot:Stmt:=top 6
structure TCache (K:W.Frag)(C:Addr):Prop where
 cl:Cls K C
 sets:NoAttr K C "sets"
 ways:NoAttr K C "ways"
 rule:NoAttr K C "rule"
 locked:NoAttr K C "locked"
noncomputable def Zfn (C:Addr):Sp:=λvs H Q _=>∃(p:Addr) (sh:Vawctb.Shape) (x y:Nat),vs=[.ref p,.int x,.int y]/\CacheAt C H p sh/\ShOk sh/\Q (.bl (decide (x % sh.sets=y % sh.sets))) H
noncomputable def Zim (C:Addr):Sp:=λvs H Q _=>∃(p:Addr) (sh:Vawctb.Shape) (x:Nat),vs=[.ref p,.int x]/\CacheAt C H p sh/\ShOk sh/\∀H',Same H H'->Q (.int (Vawctb.room sh (x % sh.sets):Nat)) H'
noncomputable section
variable {P:Program}{w:World}{K:W.Frag}{mg:Str->Option Value}{base:Heap}{C f:Addr}{fd:FuncData}
theorem Z7n:FnScope ["cache","line","other"] ["cache","line","other"] (Zf Rx):=#[5]
theorem Z7o (F:Fun K "share_set" "share_set" Rx f fd)(T:TCache K C):FnOk P w K mg base CX0 1 f fd ["cache","line","other"] (Zfn C):=by
 exists 0,Z7n
 ·obtain⟨p,sh,x,y,rfl,⟨dx,fs,h1,h2⟩,h0,k⟩:=h
  refine⟨_,Zd (Zj (Xx Ro (Ym Z6i (pv 1) (Zh (pv 0) rfl)) (Ym Z6i (pv 2) (Zh (pv 0) rfl)) (Xs _))),?_⟩
  refine⟨_,rfl,_,rfl,p,C,dx,fs,_,rfl,h1,T.cl,T.sets,h2.sets,_,_,rfl,rfl,(by show(0:Int)<_;have:=h0.pos;omega),_,rfl,_,rfl,p,C,dx,fs,_,rfl,h1,T.cl,T.sets,h2.sets,_,_,rfl,rfl,(by show(0:Int)<_;have:=h0.pos;omega),?_⟩
  refine⟨rfl,?_⟩
  show Q (.bl (decide (V.int ((x:Int) % (sh.sets:Int))=V.int ((y:Int) % (sh.sets:Int))))) H
  rw[Zjp]
  exact k
theorem Za5:FnScope ["cache","line","locked","other"] ["cache","line"] (Zf Ot):=#[5]
theorem Za6 (F:Fun K "room_for" "room_for" Ot f fd)(T:TCache K C)(B:Blt mg)(S:#[51]):FnOk P w K mg base CX0 2 f fd ["cache","line"] (Zim C):=by
 exists 0,Za5
 ·obtain⟨p,sh,x,rfl,⟨dx,fs,h1,h2⟩,h0,k⟩:=h
  refine⟨_,Zb (Ud (i:=2) (own:=[("other",3)]) rfl SC.nd rfl rfl rfl (Yc (Zh (pv 0) rfl)) (Yd rfl)
    (λ_ _ _ _ _=>#[1,3])
    (λ_ _ _ _ _=>Jy (Xf (Zs S hr (Za (pv 0) (Za (pv 1) (Za (pv 3) Zc))))))
    (λ_ _ _ _ _=>pv 3))
   (Zd (Zj (Yi (Z6j rfl) rfl B.n_max Zbj (Za (Ym Ze1 (Zh (pv 0) rfl) (#[6,Za (pv 2) Zc])) (Za Zn Zc))))),?_⟩
  obtain⟨la,hla,hlk⟩:=h2.locked
  refine⟨_,rfl,p,C,dx,fs,_,rfl,h1,T.cl,T.locked,hla,la,rfl,⟨_,SqL.of hlk⟩,λD hD=>?_⟩
  refine Rt (K:=K) (a:=la) (xs:=Zl sh.locked) (λi H'=>Same H H'/\H' D=some (.lst (Zl ((sh.locked.take i).filter λy=>decide (x % sh.sets=y % sh.sets))))) ⟨Zq hD,Ze⟩ (λi H' _ ⟨s1,_⟩=>SqL.of (s1 _ _ hlk)) ?_ ?_
  ·rintro i v H' hi ⟨s1,hD'⟩
   obtain⟨y,hy,rfl⟩:=Yr hi
   have hc:CacheAt C H' p sh:=CacheAt.same ⟨dx,fs,h1,h2⟩ s1
   refine⟨rfl,_,rfl,_,rfl,_,rfl,p,sh,x,y,rfl,hc,h0,_,rfl,?_⟩
   rw[Zw hy,List.filter_append]
   refine ite2 (λe=>?_) λe=>?_
   ·refine⟨_,rfl,_,hD',?_,?_,?_⟩
    ·rw[Zi]
     have h3:=List.length_filter_le (λy=>decide (x % sh.sets=y % sh.sets)) (sh.locked.take i)
     have h4:=h0.len
     rw[length_take]at h3
     exact Zg (by omega)
    ·intro b o eb
     rw[Zk (Zm eb hD)]
     exact s1 _ _ eb
    ·rw[Ze,filter_cons,if_pos e,List.filter_nil]
     unfold Zl
     rw[map_append]
     rfl
   ·refine⟨s1,?_⟩
    rw[filter_cons,if_neg e,List.filter_nil,append_nil]
    exact hD'
  ·rintro H' ⟨s1,hD'⟩
   rw[Zi,take_length]at hD'
   have hc:CacheAt C H' p sh:=CacheAt.same ⟨dx,fs,h1,h2⟩ s1
   obtain⟨dx',fs',g1,g2⟩:=hc
   refine⟨_,rfl,p,C,dx',fs',_,rfl,g1,T.cl,T.ways,g2.ways,_,rfl,D,_,rfl,.inl (SqL.of hD'),_,_,rfl,rfl,_,_,rfl,?_⟩
   have e1:(sh.locked.filter λy=>decide (x % sh.sets=y % sh.sets))=sh.locked.filter λy=>y % sh.sets==x % sh.sets:=by
    congr 1
    funext y
    rw[Bool.eq_iff_iff]
    simp only[decide_eq_true_eq,beq_iff_eq]
    omega
   have e2:(if 0 > (sh.ways:Int)-((Zl (sh.locked.filter λy=>decide (x % sh.sets=y % sh.sets))).length:Int) then(0:Int) else(sh.ways:Int)-((Zl (sh.locked.filter λy=>decide (x % sh.sets=y % sh.sets))).length:Int))=((Vawctb.room sh (x % sh.sets):Nat):Int):=by
    rw[Zi,e1]
    unfold Vawctb.room
    split <;> omega
   show Q (V.int (if 0 > (sh.ways:Int)-((Zl (sh.locked.filter λy=>decide (x % sh.sets=y % sh.sets))).length:Int) then(0:Int) else(sh.ways:Int)-((Zl (sh.locked.filter λy=>decide (x % sh.sets=y % sh.sets))).length:Int))) H'
   rw[e2]
   exact k H' s1
abbrev To:Stmt:=Tj (top 2) 0
abbrev Vt:Stmt:=Tj (top 3) 0
abbrev Ry:Stmt:=top 4
abbrev Uk:Stmt:=top 7
abbrev Z4s:Stmt:=top 8
abbrev Va:Stmt:=top 9
abbrev Xt:Stmt:=top 10
abbrev Xg:Stmt:=top 11
noncomputable def Vo (C:Addr)(n:Nat)(fields:List V->List (Str×V)):Sp:=λvs H Q _=>∃(p dx:Addr) (us:List V),vs=.ref p::us/\us.length=n/\H p=some (.ins C dx [])/\∀H':Hp,H' p=some (.ins C dx (fields us))->(∀b o,H b=some o->b≠p->H' b=some o)->Q .non H'
noncomputable def Z0j (us:List V):List (Str×V):=putF "locked" (us.getD 3 .non) (putF "rule" (us.getD 2 .non) (putF "ways" (us.getD 1 .non) (putF "sets" (us.getD 0 .non) [])))
noncomputable def Pl (us:List V):List (Str×V):=putF "state" (us.getD 1 .non) (putF "misses" (us.getD 0 .non) [])
theorem Z4t:FnScope ["self","sets","ways","rule","locked"] ["self","sets","ways","rule","locked"] (Zf To):=#[5]
theorem Z4u (F:Fun K "__init__" "Cache.__init__" To f fd)(T:TCache K C):FnOk P w K mg base CX0 1 f fd ["self","sets","ways","rule","locked"] (Vo C 4 Z0j):=by
 exists 0,Z4t
 ·obtain⟨p,dx,us,rfl,hl,hp,k⟩:=h
  match us,hl with
  |[a,b,c,d],_ =>
   refine⟨_,Zb (Yq (pv 0) (pv 1) rfl) (Zb (Yq (pv 0) (pv 2) rfl) (Zb (Yq (pv 0) (pv 3) rfl) (Zd (Yq (pv 0) (pv 4) rfl)))),?_⟩
   refine⟨_,rfl,_,rfl,p,C,dx,[],rfl,hp,T.cl,T.sets,(by show 0<1000;decide),?_⟩
   refine⟨_,rfl,_,rfl,p,C,dx,_,rfl,Ze,T.cl,T.ways,(by show 1<1000;decide),?_⟩
   refine⟨_,rfl,_,rfl,p,C,dx,_,rfl,Ze,T.cl,T.rule,(by show 2<1000;decide),?_⟩
   refine⟨_,rfl,_,rfl,p,C,dx,_,rfl,Ze,T.cl,T.locked,(by show 3<1000;decide),?_⟩
   exact k _ Ze λb o e hb=>by rw[Zk hb,Zk hb,Zk hb,Zk hb];exact e
structure TPassage (K:W.Frag)(C:Addr):Prop where
 cl:Cls K C
 misses:NoAttr K C "misses"
 state:NoAttr K C "state"
theorem Z0k:FnScope ["self","misses","state"] ["self","misses","state"] (Zf Vt):=#[5]
theorem Z0l (F:Fun K "__init__" "Passage.__init__" Vt f fd)(T:TPassage K C):FnOk P w K mg base CX0 1 f fd ["self","misses","state"] (Vo C 2 Pl):=by
 exists 0,Z0k
 ·obtain⟨p,dx,us,rfl,hl,hp,k⟩:=h
  match us,hl with
  |[a,b],_ =>
   refine⟨_,Zb (Yq (pv 0) (pv 1) rfl) (Zd (Yq (pv 0) (pv 2) rfl)),?_⟩
   refine⟨_,rfl,_,rfl,p,C,dx,[],rfl,hp,T.cl,T.misses,(by show 0<1000;decide),?_⟩
   refine⟨_,rfl,_,rfl,p,C,dx,_,rfl,Ze,T.cl,T.state,(by show 1<1000;decide),?_⟩
   exact k _ Ze λb o e hb=>by rw[Zk hb,Zk hb];exact e
noncomputable def Zfo (K:W.Frag):Sp:=λvs H Q _=>∃(a:Addr) (ns:List Int),vs=[.ref a]/\SqL K H a (ns.map V.int)/\ns.length<=100000/\∀H',Same H H'->Q (.bl (ns.all isLine)) H'
noncomputable def Cst (mg:Str->Option Value)(x:Str)(n:Int):Prop:=∃u,mg x=some u/\RelV (.int n) u
theorem Z7p:FnScope ["numbers","number"] ["numbers"] (Zf Ry):=#[5]
theorem Z7q (F:Fun K "are_lines" "are_lines" Ry f fd)(B:Blt mg)(L:Cst mg "LAST_LINE" 31):FnOk P w K mg base CX0 1 f fd ["numbers"] (Zfo K):=by
 obtain⟨uL,mL,rL⟩:=L
 exists 0,Z7p
 ·obtain⟨a,ns,rfl,hs,hz,k⟩:=h
  refine⟨_,Zd (Zj (Yi (Z2x rfl) rfl B.n_all Z3b (Za (Ti (own:=[("number",1)]) rfl SC.nd (Yc (pv 0)) (Yd rfl)
    (λ_ _ _ _ _=>#[1,1]) (λ_ _ _ _ _=>Yv) (λ_ _ _ _ _=>Z3u Ol Ol Zn (pv 1) (Zt rfl mL rL))) Zc))),?_⟩
  refine⟨_,rfl,a,rfl,⟨_,hs⟩,λD hD=>?_⟩
  refine Ub ((ns.map isLine).map V.bl) (by simp) hD hs (by rw[length_map];exact Zg hz) ?_ ?_
  ·rintro i x H' R hi s1 hR
   obtain⟨n,hn,rfl⟩:=Zfj hi
   refine⟨rfl,_,rfl,_,_,rfl,rfl,_,rfl,?_⟩
   have hy:((ns.map isLine).map V.bl)[i]?=some (V.bl (isLine n)):=by rw[getElem?_map,getElem?_map,hn];rfl
   have e0:isLine n=(decide (0<=n)&&decide (n<=31)):=rfl
   refine ite2 (λe=>?_) λe=>?_
   ·refine⟨_,_,rfl,rfl,hR _ _ ?_ (Same.refl _)⟩
    rw[hy,e0,e]
    rfl
   ·refine hR _ _ ?_ (Same.refl _)
    rw[hy,e0,Bool.eq_false_iff.mpr e]
    rfl
  ·rintro H' s1 hD'
   refine⟨D,_,rfl,SqL.of hD',?_⟩
   have e1:(ns.map isLine).all id=ns.all isLine:=by rw[List.all_map];rfl
   show Q (.bl ((ns.map isLine).all id)) H'
   rw[e1]
   exact k H' s1
noncomputable def Zfp (C:Addr):Sp:=λvs H Q _=>∃(p:Addr) (sh:Vawctb.Shape),vs=[.ref p]/\CacheAt C H p sh/\ShOk sh/\∀(H':Hp) (r:Addr),Same H H'->StateAt H' r (Vawctb.empty sh)->Q (.ref r) H'
theorem Z1t:FnScope ["cache"] ["cache"] (Zf Uk):=#[5]
theorem Zbl {α:Type}(a:α):∀n:Nat,(List.replicate n [a]).flatten=List.replicate n a
 |0=>rfl
 |n+1=>by rw[List.replicate_succ,List.flatten_cons,Zbl a n,List.replicate_succ];rfl
theorem Z1u (F:Fun K "empty_state" "empty_state" Uk f fd)(T:TCache K C):FnOk P w K mg base CX0 1 f fd ["cache"] (Zfp C):=by
 exists 0,Z1t
 ·obtain⟨p,sh,rfl,⟨dx,fs,h1,h2⟩,h0,k⟩:=h
  refine⟨_,Zd (Zj (Ym Zjo (Pc (Za (Pc Zc) Zc)) (Zh (pv 0) rfl))),?_⟩
  refine⟨Nat.zero_le _,λe he=>⟨(by show 1<=sizeLine;decide),λt ht=>?_⟩⟩
  have s1:Same H (upd H e (.tup [])):=Zq he
  have s2:Same (upd H e (.tup [])) (upd (upd H e (.tup [])) t (.tup [.ref e])):=Zq ht
  have hc:=CacheAt.same (CacheAt.same ⟨dx,fs,h1,h2⟩ s1) s2
  obtain⟨dx',fs',g1,g2⟩:=hc
  have he2:=s2 _ _ (Ze:upd H e (.tup []) e=some (.tup []))
  have hpos:=h0.pos
  have hle:sh.sets<=4:=by rcases h0.sets with z | z | z <;> omega
  refine⟨_,rfl,p,C,dx',fs',_,rfl,g1,T.cl,T.sets,g2.sets,t,_,_,rfl,rfl,SqT.of Ze,(by simp),(by omega),(by omega),?_,λe1=>?_,λe1 q hq=>?_⟩
  ·show 1*((sh.sets:Nat):Int).toNat<=sizeLine
   exact Nat.le_of_lt (Zg (by omega))
  ·refine k _ t (s1.trans s2) ⟨[e],Ze,?_,λi a l ha hl=>?_⟩
   ·unfold Vawctb.empty
    rw[length_replicate]
    show 1=sh.sets
    omega
   ·have hl':l=[]:=by
     unfold Vawctb.empty at hl
     rw[getElem?_replicate]at hl
     split at hl
     ·exact(Option.some.inj hl).symm
     ·cases hl
    have ha':a=e:=by
     match i,ha with
     |0,ha=>exact(Option.some.inj ha).symm
     |i+1,ha=>simp at ha
    subst hl' ha'
    exact he2
  ·have s3:Same (upd (upd H e (.tup [])) t (.tup [.ref e])) _:=Zq (o:=.tup (List.replicate ((sh.sets:Nat):Int).toNat [V.ref e]).flatten) hq
   refine k _ q ((s1.trans s2).trans s3) ⟨List.replicate sh.sets e,?_,?_,λi a l ha hl=>?_⟩
   ·rw[Ze,Zbl,Int.toNat_natCast,List.map_replicate]
   ·unfold Vawctb.empty
    rw[length_replicate,length_replicate]
   ·have hl':l=[]:=by
     unfold Vawctb.empty at hl
     rw[getElem?_replicate]at hl
     split at hl
     ·exact(Option.some.inj hl).symm
     ·cases hl
    have ha':a=e:=by
     rw[getElem?_replicate]at ha
     split at ha
     ·exact(Option.some.inj ha).symm
     ·cases ha
    subst hl' ha'
    exact s3 _ _ he2
theorem Zhj {H:Hp}{p:Addr}{c:Vawcta.Cache}(h:StateAt H p c){i:Nat}{l:List Nat}(hl:c[i]?=some l):∃xs a,H p=some (.tup xs)/\xs[i]?=some (V.ref a)/\H a=some (.tup (Zl l)):=by
 obtain⟨as,h1,h2,h3⟩:=h
 have hi:i<as.length:=by rw[h2];exact(gse.mp hl).1
 have ha:as[i]?=some as[i]:=getElem?_eq_getElem hi
 exact⟨_,as[i],h1,by rw[getElem?_map,ha];rfl,h3 i _ l ha hl⟩
noncomputable def Zjt (C:Addr):Sp:=λvs H Q _=>∃(p q:Addr) (sh:Vawctb.Shape) (c:Vawcta.Cache) (x:Nat),vs=[.ref p,.ref q,.int x]/\CacheAt C H p sh/\ShOk sh/\StateAt H q c/\c.length=sh.sets/\Q (.bl (Vawctb.hits sh c x)) H
theorem Zfq:FnScope ["cache","state","line"] ["cache","state","line"] (Zf Z4s):=#[5]
theorem Zfr (F:Fun K "is_hit" "is_hit" Z4s f fd)(T:TCache K C):FnOk P w K mg base CX0 1 f fd ["cache","state","line"] (Zjt C):=by
 exists 0,Zfq
 ·obtain⟨p,q,sh,c,x,rfl,⟨dx,fs,h1,h2⟩,h0,hs,hc,k⟩:=h
  refine⟨_,Zd (Zj (Zgw (Xx Xh (pv 2) (Zh (pv 0) rfl) rfl) (Jn (Xx Xh (pv 2) (Yp Zef (pv 1) (Ym Z6i (pv 2) (Zh (pv 0) rfl)) (λ_ _=>rfl)) rfl)))),?_⟩
  obtain⟨la,hla,hlk⟩:=h2.locked
  have hpos:=h0.pos
  refine⟨_,rfl,_,rfl,p,C,dx,fs,_,rfl,h1,T.cl,T.locked,hla,la,_,rfl,.inl (SqL.of hlk),rfl,Xb _,_,rfl,?_⟩
  obtain⟨xs,a,g1,g2,g3⟩:=Zhj hs (Ua hc hpos x)
  have hh:Vawctb.hits sh c x=(sh.locked.contains x||(setAt sh c x).contains x):=rfl
  rw[hh]at k
  show if inV (.int (x:Int)) (Zl sh.locked)=true then _ else _
  rw[Xi]
  refine ite2 (λe=>?_) λe=>?_
  ·rw[e]at k
   exact k
  ·rw[Bool.eq_false_iff.mpr e]at k
   refine⟨_,rfl,_,rfl,_,rfl,_,rfl,p,C,dx,fs,_,rfl,h1,T.cl,T.sets,h2.sets,_,_,rfl,rfl,(by show(0:Int)<_;omega),q,xs,_,_,rfl,rfl,SqT.of g1,Zeu (j:=x % sh.sets) (by show(x:Int) % (sh.sets:Int)=_;omega) g2,a,_,rfl,.inr (SqT.of g3),rfl,Xb _,?_⟩
   show Q (.bl (inV (.int (x:Int)) (Zl (setAt sh c x)))) H
   rw[Xi]
   exact k
end
noncomputable section
variable {P:Program}{w:World}{K:W.Frag}{mg:Str->Option Value}{base:Heap}{C f:Addr}{fd:FuncData}
noncomputable def Zfs (C:Addr):Sp:=λvs H Q _=>∃(p q:Addr) (sh:Vawctb.Shape) (c:Vawcta.Cache) (x:Nat),vs=[.ref p,.ref q,.int x]/\CacheAt C H p sh/\ShOk sh/\StateAt H q c/\CaOk sh c/\∀(H':Hp) (r:Addr),Same H H'->StateAt H' r (touchLine sh c x)->Q (.ref r) H'
theorem Mn:FnScope ["cache","state","line","place","held","others","newest_first","kept","other"] ["cache","state","line"] (Zf Va):=#[5]
theorem Mo (F:Fun K "touched_state" "touched_state" Va f fd)(T:TCache K C)(B:Blt mg)(R:#[40]):FnOk P w K mg base CX0 3 f fd ["cache","state","line"] (Zfs C):=by
 exists 0,Mn
 ·obtain⟨p,q,sh,c,x,rfl,hC,h0,hs,hc,k⟩:=h
  refine⟨_,Zb (Yh (Zo Xh (pv 2) (Zh (pv 0) rfl) rfl) (Zd (Zj (pv 1))) Zr)
   (Zb (#[0,3,Ym Z6i (pv 2) (Zh (pv 0) rfl)])
   (Zb (#[0,4,Yp Zef (pv 1) (pv 3) (λ_ _=>rfl)])
   (Zb (Yh (Zi8 (Zo Ro (Zh (pv 0) rfl) Zn (Xs _)) (Zdt (Zo Xh (pv 2) (pv 4) rfl))).pt (Zd (Zj (pv 1))) Zr)
   (Zb (Ud (i:=5) (own:=[("other",8)]) rfl SC.nd rfl rfl rfl (Zdx (pv 4)) (Yd rfl)
    (λ_ _ _ _ _=>#[1,8]) (λ_ _ _ _ _=>Jy (Zo Zj2 (pv 8) (pv 2) (Xs _))) (λ_ _ _ _ _=>pv 8))
   (Zb (#[0,6,Ym Pe (Zv (Za (pv 2) Zc)) (pv 5)])
   (Zb (#[0,7,Vz Z3y rfl B.n_tuple Zhi (Za (Sm Z3x (pv 6) Z3v (Tf (Zs R hr (Za (pv 0) (Za (pv 2) Zc))))) Zc)])
   (Zd (Zj (Ym Zfk (Ym Zfk (Sm Zib (pv 1) Z3v (Tf (pv 3))) (Pc (Za (pv 7) Zc))) (Sm Zib (pv 1) (Tf (Ym Xe (pv 3) Zn)) Z3v)))))))))),?_⟩
  obtain⟨dx,fs,h1,h2⟩:=id hC
  obtain⟨la,hla,hlk⟩:=h2.locked
  have hpos:=h0.pos
  obtain⟨as,g1,ha2,ha3⟩:=id hs
  have hpl:x % sh.sets<as.length:=by rw[ha2,hc.len];exact Nat.mod_lt _ hpos
  generalize hxs:as.map V.ref=xs at g1
  have hlx:xs.length=as.length:=by rw[<-hxs,length_map]
  obtain⟨a,ga⟩:∃a,as[x % sh.sets]?=some a:=⟨_,getElem?_eq_getElem hpl⟩
  have g2:xs[x % sh.sets]?=some (V.ref a):=by rw[<-hxs,getElem?_map,ga];rfl
  have g3:=ha3 _ a _ ga (Ua hc.len hpos x)
  have hsl:sh.sets<=4:=by rcases h0.sets with z | z | z <;> omega
  have hal:as.length=sh.sets:=by rw[ha2,hc.len]
  obtain⟨m1,m2,m3⟩:=hc.set _ _ (Ua hc.len hpos x)
  have hroom:Vawctb.room sh (x % sh.sets)<=4:=Z4o h0.ways.2 _
  refine⟨_,rfl,_,rfl,p,C,dx,fs,_,rfl,h1,T.cl,T.locked,hla,la,_,rfl,.inl (SqL.of hlk),rfl,Xb _,_,rfl,?_⟩
  show if inV (.int (x:Int)) (Zl sh.locked)=true then _ else _
  rw[Xi]
  refine ite2 (λe=>?_) λe=>?_
  ·exact⟨_,rfl,k H q (Same.refl H) (by rw[Tb e];exact hs)⟩
  have e0:isLocked sh x=false:=Bool.eq_false_iff.mpr e
  refine⟨_,rfl,_,rfl,p,C,dx,fs,_,rfl,h1,T.cl,T.sets,h2.sets,_,_,rfl,rfl,(by show(0:Int)<_;omega),?_⟩
  refine⟨_,rfl,_,rfl,q,xs,_,_,rfl,rfl,SqT.of g1,Zeu (j:=x % sh.sets) (by show(x:Int) % (sh.sets:Int)=_;omega) g2,?_⟩
  refine⟨_,rfl,p,C,dx,fs,_,rfl,h1,T.cl,T.rule,h2.rule,rfl,_,rfl,?_⟩
  refine Zhh ((setAt sh c x).contains x) (λh=>⟨_,rfl,_,rfl,a,_,rfl,.inr (SqT.of g3),rfl,Xb _,_,rfl,?_⟩) ?_
  ·show if inV (.int (x:Int)) (Zl (setAt sh c x))=true then _ else _
   rw[Xi]
   exact h
  have er:decide (decide (V.int (Vawctb.bit sh.oldest:Nat)=V.int 1)=true)=sh.oldest:=by
   cases sh.oldest <;> rfl
  rw[er]
  refine ite2 (λe1=>?_) λe1=>?_
  ·rw[Bool.and_eq_true]at e1
   exact⟨_,rfl,k H q (Same.refl H) (by rw[Rh hc.len hpos e1];exact hs)⟩
  have e2:¬(sh.oldest=true/\(setAt sh c x).contains x=true):=λz=>e1 (by rw[z.1,z.2];rfl)
  refine⟨_,rfl,a,rfl,⟨_,SqT.of g3⟩,λD hD=>?_⟩
  refine Zko (K:=K) (a:=a) (xs:=Zl (setAt sh c x)) (λi H'=>Same H H'/\H' D=some (.lst (Zl (((setAt sh c x).take i).filter λy=>y != x)))) ⟨Zq hD,Ze⟩ (λi H' _ ⟨s1,_⟩=>SqT.of (s1 _ _ g3)) ?_ ?_
  ·rintro i v H' hi ⟨s1,hD'⟩
   obtain⟨y,hy,rfl⟩:=Yr hi
   refine⟨rfl,_,rfl,_,rfl,rfl,_,rfl,?_⟩
   rw[Zw hy,List.filter_append]
   have ey:(!decide (V.int (y:Int)=V.int (x:Int)))=(y != x):=by rw[Xm];rfl
   show if(!decide (V.int (y:Int)=V.int (x:Int)))=true then _ else _
   rw[ey]
   refine ite2 (λe=>?_) λe=>?_
   ·refine⟨_,rfl,_,hD',?_,?_,?_⟩
    ·rw[Zi]
     have h3:=List.length_filter_le (λy=>y != x) ((setAt sh c x).take i)
     rw[length_take]at h3
     exact Zg (by omega)
    ·intro b o eb
     rw[Zk (Zm eb hD)]
     exact s1 _ _ eb
    ·rw[Ze,filter_cons,if_pos e,List.filter_nil]
     unfold Zl
     rw[map_append]
     rfl
   ·refine⟨s1,?_⟩
    rw[filter_cons,if_neg e,List.filter_nil,append_nil]
    exact hD'
  ·rintro H1 ⟨s1,hD'⟩
   rw[Zi,take_length]at hD'
   refine⟨_,rfl,(by show 1<=sizeLine;decide),λl1 hl1=>?_⟩
   obtain⟨s2,f2⟩:=newE hl1 (.lst [.int x])
   generalize upd _ l1 _=H2 at s2 f2 ⊢
   refine⟨_,rfl,l1,D,_,_,rfl,rfl,f2,s2 _ _ hD',?_,λnf hnf=>?_⟩
   ·rw[Zi]
    have h3:=List.length_filter_le (λy=>y != x) (setAt sh c x)
    exact Nat.le_of_lt (Zg (by show 1+_<=_;omega))
   have en:[V.int (x:Int)]++Zl ((setAt sh c x).filter λy=>y != x)=Zl (x::(setAt sh c x).filter λy=>y != x):=rfl
   rw[en]
   obtain⟨s3,f3⟩:=newE hnf (.lst (Zl (x::(setAt sh c x).filter λy=>y != x)))
   generalize upd _ nf _=H3 at s3 f3 ⊢
   have s03:=(s1.trans s2).trans s3
   refine⟨_,rfl,_,rfl,_,rfl,p,sh,x,rfl,CacheAt.same hC s03,h0,λH4 s4=>⟨_,rfl,nf,_,rfl,SqL.of (s4 _ _ f3),λsl hsl=>?_⟩⟩
   have ek:cutV (Zl (x::(setAt sh c x).filter λy=>y != x)) none (some (Vawctb.room sh (x % sh.sets):Nat))=Zl (Pj sh (setAt sh c x) x):=by
    rw[Zik,Zcx]
    rfl
   rw[ek]
   generalize hKK:Pj sh (setAt sh c x) x=KK
   obtain⟨s5,f5⟩:=newE hsl (.lst (Zl KK))
   generalize upd _ sl _=H5 at s5 f5 ⊢
   refine⟨sl,_,rfl,.inl ⟨SqL.of f5,λkp hkp=>?_⟩⟩
   obtain⟨s6,f6⟩:=newE hkp (.tup (Zl KK))
   generalize upd _ kp _=H6 at s6 f6 ⊢
   have s06:=((s03.trans s4).trans s5).trans s6
   have epl:((x:Int) % (sh.sets:Int))=((x % sh.sets:Nat):Int):=by omega
   generalize hpp:x % sh.sets=pl at epl hpl
   refine⟨_,rfl,_,rfl,_,rfl,q,xs,rfl,SqT.of (s06 _ _ g1),?_,λt1 ht1=>?_⟩
   ·show ¬(HT.sIx xs.length 0 none=0/\HT.sIx xs.length xs.length (some ((x:Int) % (sh.sets:Int)))=xs.length)
    rw[epl,HT.sIx_nat]
    omega
   have ec1:cutV xs none (some ((x:Int) % (sh.sets:Int)))=xs.take pl:=by rw[epl,Zik]
   rw[ec1]
   obtain⟨s7,f7⟩:=newE ht1 (.tup (xs.take pl))
   generalize upd _ t1 _=H7 at s7 f7 ⊢
   refine⟨_,rfl,(by show 1<=sizeLine;decide),λt2 ht2=>?_⟩
   obtain⟨s8,f8⟩:=newE ht2 (.tup [.ref kp])
   generalize upd _ t2 _=H8 at s8 f8 ⊢
   refine⟨t1,t2,_,_,rfl,rfl,s8 _ _ f7,f8,?_,λt3 H9 f9 s9=>?_⟩
   ·rw[length_take]
    exact Nat.le_of_lt (Zg (by show _+1<=_;omega))
   have s09:=(((s06.trans s7).trans s8).trans s9)
   have ead:((x:Int) % (sh.sets:Int)+1)=((pl+1:Nat):Int):=by omega
   refine⟨_,rfl,_,rfl,_,_,rfl,rfl,_,rfl,q,xs,rfl,SqT.of (s09 _ _ g1),?_,λt4 ht4=>?_⟩
   ·show ¬(HT.sIx xs.length 0 (some ((x:Int) % (sh.sets:Int)+1))=0/\HT.sIx xs.length xs.length none=xs.length)
    rw[ead,HT.sIx_nat]
    omega
   have ec2:cutV xs (some ((x:Int) % (sh.sets:Int)+1)) none=xs.drop (pl+1):=by rw[ead,Zbi]
   rw[ec2]
   obtain⟨s10,f10⟩:=newE ht4 (.tup (xs.drop (pl+1)))
   generalize upd _ t4 _=H10 at s10 f10 ⊢
   refine⟨t3,t4,_,_,rfl,rfl,s10 _ _ f9,f10,?_,λr H11 f11 s11=>?_⟩
   ·rw[length_append,length_take,length_drop]
    exact Nat.le_of_lt (Zg (by show _+1+_<=_;omega))
   have s011:=(s09.trans s10).trans s11
   rw[<-Zjr (by omega),<-hxs]at f11
   subst hpp hKK
   refine k H11 r s011 ?_
   rw[Ri hc hpos e0 e2]
   refine⟨as.set (x % sh.sets) kp,?_,?_,λi b l hb hl=>?_⟩
   ·rw[f11,List.map_set]
   ·rw[List.length_set,List.length_set]
    exact ha2
   ·rw[List.getElem?_set]at hb hl
    by_cases ei:x % sh.sets=i
    ·rw[if_pos ei]at hb hl
     rw[if_pos (by omega)]at hb
     rw[if_pos (by omega)]at hl
     cases hb
     cases hl
     exact s11 _ _ (s10 _ _ (s9 _ _ (s8 _ _ (s7 _ _ f6))))
    ·rw[if_neg ei]at hb hl
     exact s011 _ _ (ha3 i b l hb hl)
end
noncomputable def Z7r (CP:Addr)(H:Hp)(r:Addr)(ms:List Nat)(c:Vawcta.Cache):Prop:=∃dx fs m q,H r=some (.ins CP dx fs)/\fs.lookup ("misses":Str)=some (.ref m)/\fs.lookup ("state":Str)=some (.ref q)/\H m=some (.lst (Zl ms))/\StateAt H q c
noncomputable def bits (l:List Bool):List Nat:=l.map Vawctb.bit
theorem Z4v (l:List Bool):(bits l).length=l.length:=by unfold bits;rw[length_map]
theorem Tp (sh:Vawctb.Shape):∀(xs:List Nat) (c:Vawcta.Cache),(touchAll sh c xs).2.length=xs.length
 |[],_=>rfl
 |x::xs,c=>congrArg (·+1) (Tp sh xs (touchLine sh c x))
noncomputable section
variable {P:Program}{w:World}{K:W.Frag}{mg:Str->Option Value}{base:Heap}{C CP f:Addr}{fd:FuncData}
noncomputable def Zft (K:W.Frag)(C CP:Addr):Sp:=λvs H Q _=>∃(p q l:Addr) (sh:Vawctb.Shape) (c:Vawcta.Cache) (xs:List Nat),vs=[.ref p,.ref q,.ref l]/\CacheAt C H p sh/\ShOk sh/\StateAt H q c/\CaOk sh c/\SqL K H l (Zl xs)/\(∀x∈xs,x<32)/\xs.length<=100000/\
 ∀(H':Hp) (r:Addr),Same H H'->Z7r CP H' r (bits (touchAll sh c xs).2) (touchAll sh c xs).1->Q (.ref r) H'
theorem Rz:FnScope ["cache","state","lines","misses","line"] ["cache","state","lines"] (Zf Xt):=#[5]
theorem Qa (F:Fun K "touched_in_order" "touched_in_order" Xt f fd)(kh:#[43])(kt:#[52])
  (kp:#[65]):FnOk P w K mg base CX0 4 f fd ["cache","state","lines"] (Zft K C CP):=by
 exists 0,Rz
 ·obtain⟨p,q,l,sh,c,xs,rfl,hC,h0,hs,hc,hl,hx,hz,k⟩:=h
  have hpos:=h0.pos
  refine⟨_,Zb (#[0,3,Zv Zc])
   (Zb (Yy PassesOwn.never rfl (Yc (pv 2)) (#[1,4])
    (Zb (Xd (#[3,pv 3,Za (Wg (Xf (Zs kh #[2] (Za (pv 0) (Za (pv 1) (Za (pv 4) Zc))))) Zn Zn) Zc]))
    (Zd (#[0,1,Zs kt hr (Za (pv 0) (Za (pv 1) (Za (pv 4) Zc)))]))))
   (Zd (Zj (Wz kp #[2] (Za (pv 3) (Za (pv 1) Zc)))))),?_⟩
  refine⟨Nat.zero_le _,λm hm=>?_⟩
  obtain⟨s1,f1⟩:=newE hm (.lst [])
  generalize upd _ m _=H1 at s1 f1 ⊢
  refine⟨_,rfl,l,rfl,⟨_,s1.seq hl⟩,Xk (K:=K) (a:=l) (xs:=Zl xs) (λi σ H'=>∃(q':Addr) (v:Option V),σ=[some (.ref p),some (.ref q'),some (.ref l),some (.ref m),v]/\Same H H'/\H' m=some (.lst (Zl (bits (touchAll sh c (xs.take i)).2)))/\StateAt H' q' (touchAll sh c (xs.take i)).1)
   ⟨q,none,rfl,s1,f1,hs.same s1⟩ (λi σ H' _ ⟨_,_,_,s2,_⟩=>s2.seq hl) ?_ ?_⟩
  ·rintro i y σ H' hi ⟨q',v,rfl,s2,f2,g2⟩
   obtain⟨x,hxi,rfl⟩:=Yr hi
   have hok:CaOk sh (touchAll sh c (xs.take i)).1:=Uj hpos _ hc λy hy=>hx y (List.mem_of_mem_take hy)
   have eT:=Pk sh x (xs.take i) c
   rw[<-Zw hxi]at eT
   refine⟨_,rfl,.inl ⟨rfl,_,SqL.of f2⟩,_,rfl,_,rfl,_,rfl,p,q',sh,_,x,rfl,hC.same s2,h0,g2,hok.len,_,rfl,?_⟩
   have hb:bits (touchAll sh c (xs.take (i+1))).2=bits (touchAll sh c (xs.take i)).2++[Vawctb.bit (!Vawctb.hits sh (touchAll sh c (xs.take i)).1 x)]:=by
    rw[eT]
    unfold bits
    rw[map_append]
    rfl
   have hlen:(Zl (bits (touchAll sh c (xs.take i)).2)).length<sizeLine:=by
    rw[Zi,Z4v,Tp,length_take]
    exact Zg (by omega)
   have key:∀(z:Nat) (H4:Hp),z=Vawctb.bit (!Vawctb.hits sh (touchAll sh c (xs.take i)).1 x)->H4=upd H' m (.lst (Zl (bits (touchAll sh c (xs.take i)).2)++[V.int (z:Int)]))->
     Same H H4/\H4 m=some (.lst (Zl (bits (touchAll sh c (xs.take (i+1))).2)))/\StateAt H4 q' (touchAll sh c (xs.take i)).1:=by
    rintro z H4 hz4 rfl
    obtain⟨s4,f4⟩:=chg (o:=.lst (Zl (bits (touchAll sh c (xs.take i)).2)++[V.int (z:Int)])) s2 hm
    refine⟨s4,?_,?_⟩
    ·rw[f4,hb,Zu,hz4]
     rfl
    ·obtain⟨as,a1,a2,a3⟩:=g2
     exact⟨as,Yl a1 (Xl a1 f2 (by intro z;cases z)),a2,λj b l hb hl=>Yl (a3 j b l hb hl) (Xl (a3 j b l hb hl) f2 (by intro z;cases z))⟩
   have fin:∀H4:Hp,Same H H4->H4 m=some (.lst (Zl (bits (touchAll sh c (xs.take (i+1))).2)))->StateAt H4 q' (touchAll sh c (xs.take i)).1->∀(H5:Hp) (r:Addr),Same H4 H5->StateAt H5 r (touchLine sh (touchAll sh c (xs.take i)).1 x)->
     ∃(q':Addr) (v:Option V),[some (V.ref p),some (V.ref r),some (V.ref l),some (V.ref m),some (V.int (x:Int))]=[some (.ref p),some (.ref q'),some (.ref l),some (.ref m),v]/\Same H H5/\H5 m=some (.lst (Zl (bits (touchAll sh c (xs.take (i+1))).2)))/\StateAt H5 q' (touchAll sh c (xs.take (i+1))).1:=by
    intro H4 s4 f4 g4 H5 r s5 g5
    refine⟨r,_,rfl,s4.trans s5,s5 _ _ f4,?_⟩
    rw[eT]
    exact g5
   refine ite2 (λe=>?_) λe=>?_
   ·obtain⟨s4,f4,g4⟩:=key 0 _ (by rw[e];rfl) rfl
    refine⟨m,_,_,rfl,rfl,f2,hlen,_,rfl,_,rfl,_,rfl,p,q',sh,_,x,rfl,hC.same s4,h0,g4,hok,λH5 r s5 g5=>fin _ s4 f4 g4 H5 r s5 g5⟩
   ·obtain⟨s4,f4,g4⟩:=key 1 _ (by rw[Bool.eq_false_iff.mpr e];rfl) rfl
    refine⟨m,_,_,rfl,rfl,f2,hlen,_,rfl,_,rfl,_,rfl,p,q',sh,_,x,rfl,hC.same s4,h0,g4,hok,λH5 r s5 g5=>fin _ s4 f4 g4 H5 r s5 g5⟩
  ·rintro σ H' ⟨q',v,rfl,s2,f2,g2⟩
   rw[Zi,take_length]at f2 g2
   refine⟨_,rfl,_,rfl,λx dx nx nd ne=>⟨x,dx,_,rfl,rfl,Ze,λH3 f3 k3=>⟨rfl,?_⟩⟩⟩
   have s3:=Same.made nx nd k3
   exact k H3 x (s2.trans s3) ⟨dx,_,m,q',f3,rfl,rfl,s3 _ _ f2,g2.same s3⟩
noncomputable def Zin (K:W.Frag)(C CP:Addr):Sp:=λvs H Q _=>∃(p l:Addr) (sh:Vawctb.Shape) (xs:List Nat),vs=[.ref p,.ref l]/\CacheAt C H p sh/\ShOk sh/\SqL K H l (Zl xs)/\(∀x∈xs,x<32)/\xs.length<=100000/\
 ∀(H':Hp) (r:Addr),Same H H'->Z7r CP H' r (bits (touchAll sh (Vawctb.empty sh) xs).2) (touchAll sh (Vawctb.empty sh) xs).1->Q (.ref r) H'
theorem Tq:FnScope ["cache","lines"] ["cache","lines"] (Zf Xg):=#[5]
theorem Tr (F:Fun K "passage_from_empty" "passage_from_empty" Xg f fd)(ke:#[66])(ko:#[53]) :
  FnOk P w K mg base CX0 5 f fd ["cache","lines"] (Zin K C CP):=by
 exists 0,Tq
 ·obtain⟨p,l,sh,xs,rfl,hC,h0,hl,hx,hz,k⟩:=h
  refine⟨_,Zd (Zj (Zs ko hr (Za (pv 0) (Za (Zs ke #[2] (Za (pv 0) Zc)) (Za (pv 1) Zc))))),?_⟩
  exact⟨_,rfl,_,rfl,p,sh,rfl,hC,h0,λH1 r s1 g1=>⟨_,rfl,p,r,l,sh,_,xs,rfl,hC.same s1,h0,g1,Zbf sh,s1.seq hl,hx,hz,λH2 t s2 g2=>k H2 t (s1.trans s2) g2⟩⟩
end
end Sl
namespace Sl
open PySem PySem.Spec PyProof.Rows L2
open Vawctb (Ages ageIn)
noncomputable def enc (m:Ages):List (Key×V):=m.map λz=>(Sum.inl (z.1:Int),V.int (z.2:Int))
noncomputable def FD (kvs:List (Key×V))(φ:Nat->Option Nat):Prop:=∃m:Ages,kvs=enc m/\(m.map (·.1)).Nodup/\∀y,ageIn m y=φ y
theorem Zhk (z:Nat×Nat)(m:Ages):enc (z::m)=(Sum.inl (z.1:Int),V.int (z.2:Int))::enc m:=rfl
theorem Jj (x:Nat):∀m:Ages,valV (enc m) (Sum.inl (x:Int))=(ageIn m x).map λa=>V.int (a:Int)
 |[]=>rfl
 |z::m=>by
  rw[Zhk,Zp]
  by_cases e:z.1=x
  ·rw[if_pos e,Wp (by rw[e])]
   rfl
  ·rw[if_neg e,Wq (λq=>e (by have:=Sum.inl.inj q;omega)),Jj x m]
theorem FD.get {kvs:List (Key×V)}{φ:Nat->Option Nat}(h:FD kvs φ)(x:Nat):valV kvs (Sum.inl (x:Int))=(φ x).map λa=>V.int (a:Int):=by
 obtain⟨m,rfl,_,h2⟩:=h
 rw[Jj,h2]
theorem FD.nil:FD [] (λ_=>none):=⟨[],rfl,nodup_nil,λ_=>rfl⟩
theorem FD.congr {kvs:List (Key×V)}{φ ψ:Nat->Option Nat}(h:FD kvs φ)(e:∀y,φ y=ψ y):FD kvs ψ:=by
 obtain⟨m,h1,h2,h3⟩:=h
 exact⟨m,h1,h2,λy=>(h3 y).trans (e y)⟩
theorem FD.ints {kvs:List (Key×V)}{φ:Nat->Option Nat}(h:FD kvs φ):Zfe kvs:=by
 obtain⟨m,rfl,_,_⟩:=h
 intro p hp
 obtain⟨z,_,rfl⟩:=mem_map.mp hp
 exact⟨_,rfl⟩
theorem Ou (x a y:Nat):∀m:Ages,ageIn m x=none->ageIn (m++[(x,a)]) y=if x=y then some a else ageIn m y
 |[],_=>by
  show ageIn [(x,a)] y=_
  rw[Zp]
 |z::m,h=>by
  rw[Zp]at h
  have hz:¬z.1=x:=λe=>by rw[if_pos e]at h;cases h
  rw[if_neg hz]at h
  show ageIn (z::(m++[(x,a)])) y=_
  rw[Zp,Zp,Ou x a y m h]
  by_cases e:z.1=y
  ·rw[if_pos e,if_pos e,if_neg (by omega)]
  ·rw[if_neg e,if_neg e]
theorem Z3c (x a y:Nat):∀m:Ages,ageIn (m.map λz=>if z.1=x then(z.1,a) else z) y=(ageIn m y).map λb=>if x=y then a else b
 |[]=>rfl
 |z::m=>by
  rw[List.map_cons,Zp,Zp,Z3c x a y m]
  by_cases e:z.1=x
  ·rw[if_pos e]
   by_cases q:z.1=y
   ·rw[if_pos q,if_pos q]
    show some a=some (if x=y then a else z.2)
    rw[if_pos (by omega)]
   ·rw[if_neg q,if_neg q]
  ·rw[if_neg e]
   by_cases q:z.1=y
   ·rw[if_pos q,if_pos q]
    show some z.2=some (if x=y then a else z.2)
    rw[if_neg (by omega)]
   ·rw[if_neg q,if_neg q]
theorem FD.put {kvs:List (Key×V)}{φ:Nat->Option Nat}(h:FD kvs φ)(x a:Nat):FD (putK kvs (Sum.inl (x:Int)) (V.int (a:Int))) (λy=>if x=y then some a else φ y):=by
 obtain⟨m,rfl,h2,h3⟩:=h
 unfold putK
 rw[Ue,Jj]
 cases q:ageIn m x with
 |none =>
  rw[if_neg (by simp)]
  refine⟨m++[(x,a)],?_,?_,λy=>?_⟩
  ·unfold enc
   rw[map_append]
   rfl
  ·rw[map_append]
   refine Zet h2 λhm=>?_
   obtain⟨z,hz,e⟩:=mem_map.mp hm
   have:ageIn m x≠none:=λhn=>by
    clear h2 h3
    induction m with
    |nil=>cases hz
    |cons b m ih =>
     rw[Zp]at hn
     by_cases eb:b.1=x
     ·rw[if_pos eb]at hn
      cases hn
     ·rw[if_neg eb]at hn
      rcases List.mem_cons.mp hz with e1 | hz
      ·rw[e1]at e
       exact eb e
      ·exact ih (by rw[Zp,if_neg eb]at q;exact q) (mem_map.mpr ⟨z,hz,e⟩) hz hn
   exact this q
  ·rw[Ou x a y m q,h3]
 |some b =>
  rw[if_pos (by rfl)]
  refine⟨m.map λz=>if z.1=x then(z.1,a) else z,?_,?_,λy=>?_⟩
  ·unfold enc
   rw[List.map_map,List.map_map]
   congr 1
   funext z
   show(if Sum.inl (z.1:Int)=Sum.inl (x:Int) then _ else _)=_
   by_cases e:z.1=x
   ·rw[if_pos (by rw[e])]
    show _=(Sum.inl (((if z.1=x then(z.1,a) else z).1:Nat):Int),V.int (((if z.1=x then(z.1,a) else z).2:Nat):Int))
    rw[if_pos e]
   ·rw[if_neg (λq=>e (by have:=Sum.inl.inj q;omega))]
    show _=(Sum.inl (((if z.1=x then(z.1,a) else z).1:Nat):Int),V.int (((if z.1=x then(z.1,a) else z).2:Nat):Int))
    rw[if_neg e]
  ·rw[List.map_map]
   have e:((·.1)∘λz:Nat×Nat=>if z.1=x then(z.1,a) else z)=λz:Nat×Nat=>z.1:=by
    funext z
    show(if z.1=x then(z.1,a) else z).1=z.1
    split <;> rfl
   rw[e]
   exact h2
  ·show _=if x=y then some a else φ y
   rw[Z3c,<-h3]
   by_cases e:x=y
   ·rw[if_pos e]
    subst e
    rw[q]
    show some (if x=x then a else b)=some a
    rw[if_pos rfl]
   ·rw[if_neg e]
    cases ageIn m y with
    |none=>rfl
    |some c =>
     show some (if x=y then a else c)=some c
     rw[if_neg e]
theorem Xc {x a:Nat}:∀{m:Ages},(m.map (·.1)).Nodup->(x,a)∈m->ageIn m x=some a
 |[],_,h=>by cases h
 |z::m,hn,h=>by
  rw[List.map_cons,nodup_cons]at hn
  rw[Zp]
  rcases List.mem_cons.mp h with e | h
  ·subst e
   rw[if_pos rfl]
  ·rw[if_neg (λe=>hn.1 (mem_map.mpr ⟨(x,a),h,e.symm⟩))]
   exact Xc hn.2 h
theorem Pn {m:Ages}(h:(m.map (·.1)).Nodup):m.Nodup:=by
 induction m with
 |nil=>exact nodup_nil
 |cons z m ih =>
  rw[List.map_cons,nodup_cons]at h
  exact nodup_cons.mpr ⟨λq=>h.1 (mem_map.mpr ⟨z,q,rfl⟩),ih h.2⟩
theorem Z4w {l:Ages}(h:Srt l):(l.map (·.1)).Nodup:=by
 induction l with
 |nil=>exact nodup_nil
 |cons z l ih =>
  rw[List.map_cons]
  refine nodup_cons.mpr ⟨λq=>?_,ih h.tail⟩
  obtain⟨y,hy,e⟩:=mem_map.mp q
  have:=h.head y hy
  omega
theorem Ts {m l:Ages}(hm:(m.map (·.1)).Nodup)(hl:(l.map (·.1)).Nodup)(h:∀y,ageIn m y=ageIn l y):m.Perm l:=by
 refine(List.perm_ext_iff_of_nodup (Pn hm) (Pn hl)).mpr λz=>⟨λq=>?_,λq=>?_⟩
 ·exact Yz (by rw[<-h];exact Xc hm q)
 ·exact Yz (by rw[h];exact Xc hl q)
theorem FD.len_eq {kvs:List (Key×V)}{l:Ages}(h:FD kvs (ageIn l))(hl:Srt l):kvs.length=l.length:=by
 obtain⟨m,rfl,h2,h3⟩:=h
 unfold enc
 rw[length_map]
 exact(Ts h2 (Z4w hl) h3).length_eq
theorem FD.len {kvs:List (Key×V)}{φ:Nat->Option Nat}(h:FD kvs φ)(hb:∀y a,φ y=some a->y<32):kvs.length<=32:=by
 obtain⟨m,rfl,h2,h3⟩:=h
 have:(m.map (·.1)).length<=(List.range 32).length:=List.Nodup.length_le_of_subset h2 λy hy=>by
  obtain⟨z,hz,e⟩:=mem_map.mp hy
  have q:=Xc h2 (x:=z.1) (a:=z.2) hz
  rw[h3]at q
  rw[<-e]
  exact List.mem_range.mpr (hb _ _ q)
 unfold enc
 rw[length_map]at this ⊢
 rw[length_range]at this
 exact this
theorem FD.eq_iff {ka kb:List (Key×V)}{φ ψ:Nat->Option Nat}(ha:FD ka φ)(hb:FD kb ψ):((ka.length==kb.length&&ka.all λp=>decide (valV kb p.1=some p.2))=true)↔∀y,φ y=ψ y:=by
 have hget:=λx=>hb.get x
 obtain⟨m,rfl,h2,h3⟩:=ha
 obtain⟨n,rfl,k2,k3⟩:=hb
 rw[Bool.and_eq_true,beq_iff_eq]
 have el:∀l:Ages,(enc l).length=l.length:=λl=>by unfold enc;rw[length_map]
 rw[el,el]
 have hall:((enc m).all λp=>decide (valV (enc n) p.1=some p.2))=true↔∀z∈m,ageIn n z.1=some z.2:=by
  have e1:((enc m).all λp=>decide (valV (enc n) p.1=some p.2))=m.all λz=>decide (valV (enc n) (Sum.inl (z.1:Int))=some (V.int (z.2:Int))):=by
   show(m.map _).all _=_
   rw[List.all_map]
   rfl
  rw[e1,List.all_eq_true]
  refine forall_congr' λz=>forall_congr' λ_=>?_
  show decide (valV (enc n) (Sum.inl (z.1:Int))=some (V.int (z.2:Int)))=true↔_
  rw[decide_eq_true_eq,Jj]
  cases ageIn n z.1 with
  |none=>simp
  |some c =>
   show(some (V.int (c:Int))=some (V.int (z.2:Int)))↔some c=some z.2
   constructor
   ·intro q
    have:=V.int.inj (Option.some.inj q)
    exact congrArg some (by omega)
   ·intro q
    rw[Option.some.inj q]
 rw[hall]
 constructor
 ·rintro⟨hl,hz⟩ y
  rw[<-h3,<-k3]
  cases q:ageIn m y with
  |some a=>exact(hz (y,a) (Yz q)).symm
  |none =>
   cases r:ageIn n y with
   |none=>rfl
   |some b =>
    have hy:y∉m.map (·.1):=λhm=>by
     obtain⟨z,hz',e⟩:=mem_map.mp hm
     rw[Xc h2 (x:=y) (a:=z.2) (by rw[<-e];exact hz')]at q
     cases q
    have hnd:(y::m.map (·.1)).Nodup:=nodup_cons.mpr ⟨hy,h2⟩
    have:=List.Nodup.length_le_of_subset (l₂:=n.map (·.1)) hnd λx hx=>by
     rcases List.mem_cons.mp hx with e | hx
     ·rw[e]
      exact mem_map.mpr ⟨(y,b),Yz r,rfl⟩
     ·obtain⟨z,hz',e⟩:=mem_map.mp hx
      exact mem_map.mpr ⟨(z.1,z.2),Yz (hz z hz'),e⟩
    rw[length_cons,length_map,length_map]at this
    omega
 ·intro h
  refine⟨(Ts h2 k2 λy=>by rw[h3,k3,h]).length_eq,λz hz=>?_⟩
  rw[k3,<-h,<-h3]
  exact Xc h2 hz
theorem FD.item {kvs:List (Key×V)}{φ:Nat->Option Nat}(h:FD kvs φ):∃m:Ages,kvs=enc m/\(m.map (·.1)).Nodup/\(∀y,ageIn m y=φ y)/\∀(i:Nat) (k:Key) (v:V),kvs[i]?=some (k,v)->∃(x a:Nat),m[i]?=some (x,a)/\k=Sum.inl (x:Int)/\v=V.int (a:Int)/\φ x=some a:=by
 obtain⟨m,rfl,h2,h3⟩:=h
 refine⟨m,rfl,h2,h3,λi k v e=>?_⟩
 unfold enc at e
 rw[getElem?_map]at e
 cases q:m[i]? with
 |none =>
  rw[q]at e
  cases e
 |some z =>
  rw[q]at e
  cases e
  exact⟨z.1,z.2,rfl,rfl,rfl,by rw[<-h3];exact Xc h2 (mem_of_getElem? q)⟩
theorem Ov {m:Ages}(hn:(m.map (·.1)).Nodup){i x a:Nat}(h:m[i]?=some (x,a))(y:Nat):ageIn (m.take (i+1)) y=if x=y then some a else ageIn (m.take i) y:=by
 rw[Zw h]
 refine Ou x a y _ ?_
 refine Wt λz hz e=>?_
 have hsplit:m=m.take i++(x,a)::m.drop (i+1):=by
  have hi:i<m.length:=(gse.mp h).1
  have e2:m[i]=(x,a):=(gse.mp h).2
  rw[<-e2,List.getElem_cons_drop hi,List.take_append_drop]
 rw[hsplit,map_append,List.map_cons]at hn
 have:=(List.nodup_append.mp hn).2.2 z.1 (mem_map.mpr ⟨z,hz,rfl⟩) x mem_cons_self
 exact this e
theorem Z7s {m:Ages}(hn:(m.map (·.1)).Nodup){i x a:Nat}(hx:m[i]?=some (x,a)):ageIn (m.take i) x=none:=by
 cases q:ageIn (m.take i) x with
 |none=>rfl
 |some c =>
  have hsplit:m=m.take i++(x,a)::m.drop (i+1):=by
   have hi':i<m.length:=(gse.mp hx).1
   have e2:m[i]=(x,a):=(gse.mp hx).2
   rw[<-e2,List.getElem_cons_drop hi',List.take_append_drop]
  rw[hsplit,map_append,List.map_cons]at hn
  exact absurd rfl ((List.nodup_append.mp hn).2.2 x (mem_map.mpr ⟨(x,c),Yz q,rfl⟩) x mem_cons_self)
theorem Z0m {d:Addr}{o:Obj}{kvs:List (Key×V)}{g:TG}{tb:TS}{D:Ends}{σ:L2.St}{H:Hp}(Pv:Nat->L2.St->Hp->Prop)(h0:Pv 0 σ H)(hl:∀i σ H,Pv i σ H->H d=some (.frz o (.dK kvs)))
  (hs:∀(i:Nat) (k:Key) (v:V) (T:Addr) (σ:L2.St) (H:Hp),kvs[i]?=some (k,v)->Pv i σ H->H T=none->g (.ref T) σ (upd H T (.tup [kV k,v])) λσ2 H2=>tb {D with nx:=Pv (i+1),ct:=Pv (i+1),bk:=D.nx} σ2 H2)
  (hd:∀σ H,Pv kvs.length σ H->D.nx σ H) :
  ∃W:Nat->Nat->L2.St->Hp->Prop,(∃m,W 0 m σ H)/\∀i m σ H,W i m σ H->
   ((Iti d o kvs).stop i H/\D.nx σ H)\/((Iti d o kvs).go i H/\∃N:L2.St->Hp->Prop,(∀σ' H',N σ' H'->∃m',m'<m/\W (i+1) m' σ' H')/\∀x H',(Iti d o kvs).yld i H x H'->g x σ H' λσ2 H2=>tb {D with nx:=N,ct:=N,bk:=D.nx} σ2 H2):=by
 refine⟨λi m σ H=>m=kvs.length-i/\i<=kvs.length/\Pv i σ H,⟨kvs.length,by simp,Nat.zero_le _,h0⟩,?_⟩
 rintro i m σ H ⟨rfl,hi,p⟩
 have q:=hl i σ H p
 by_cases hlt:i<kvs.length
 ·refine .inr ⟨⟨q,hlt⟩,Pv (i+1),λσ' H' p'=>⟨kvs.length-(i+1),by omega,rfl,hlt,p'⟩,λx H' y=>?_⟩
  obtain⟨T,k,v,e,rfl,hT,rfl⟩:=y
  exact hs i k v T σ H e p hT
 ·have e:i=kvs.length:=by omega
  subst e
  exact .inl ⟨⟨q,Nat.le_refl _⟩,hd σ H p⟩
end Sl
namespace Sl
open PySem PySem.Spec PyProof.Rows L2
open Vawctb (Ages ageIn putAge)
abbrev Ul:Stmt:=Tj (top 13) 0
abbrev Wa:Stmt:=top 15
abbrev Um:Stmt:=top 16
abbrev Wb:Stmt:=top 17
abbrev Z4x:Stmt:=top 18
abbrev Vb:Stmt:=top 19
abbrev Zfu:Stmt:=top 20
abbrev Xn:Stmt:=top 21
abbrev Xo:Stmt:=top 22
abbrev Wl:Stmt:=top 23
abbrev Vc:Stmt:=top 24
abbrev Qb:Stmt:=top 25
abbrev Ow:Stmt:=top 26
abbrev Uo:Stmt:=Tj (top 14) 0
abbrev Tu:Stmt:=top 27
noncomputable def DictAt (H:Hp)(d:Addr)(φ:Nat->Option Nat):Prop:=∃kvs,H d=some (.dK kvs)/\FD kvs φ
theorem DictAt.same {H H':Hp}{d:Addr}{φ:Nat->Option Nat}(h:DictAt H d φ)(s:Same H H'):DictAt H' d φ:=by
 obtain⟨kvs,h1,h2⟩:=h
 exact⟨kvs,s _ _ h1,h2⟩
noncomputable def BoundsAt (CB:Addr)(H:Hp)(r:Addr)(b:Bounds):Prop:=∃dx fs ds dp,H r=some (.ins CB dx fs)/\fs.lookup ("sure":Str)=some (.ref ds)/\fs.lookup ("possible":Str)=some (.ref dp)/\DictAt H ds (ageIn b.sure)/\DictAt H dp (ageIn b.maybe)
theorem BoundsAt.same {CB:Addr}{H H':Hp}{r:Addr}{b:Bounds}(h:BoundsAt CB H r b)(s:Same H H'):BoundsAt CB H' r b:=by
 obtain⟨dx,fs,ds,dp,h1,h2,h3,h4,h5⟩:=h
 exact⟨dx,fs,ds,dp,s _ _ h1,h2,h3,h4.same s,h5.same s⟩
structure TBounds (K:W.Frag)(C:Addr):Prop where
 cl:Cls K C
 sure:NoAttr K C "sure"
 possible:NoAttr K C "possible"
noncomputable def Tv (us:List V):List (Str×V):=putF "possible" (us.getD 1 .non) (putF "sure" (us.getD 0 .non) [])
noncomputable def Zcz (zs:List (Nat×Nat)):Ages:=zs.foldl (λm z=>putAge z.1 z.2 m) []
theorem Zd0 (zs:List (Nat×Nat))(z:Nat×Nat):Zcz (zs++[z])=putAge z.1 z.2 (Zcz zs):=by
 unfold Zcz
 rw[List.foldl_append]
 rfl
theorem Zfv:∀(zs:List (Nat×Nat)) (l:Ages),(∀z∈zs,z.1<32)->(∀y a,ageIn l y=some a->y<32)->∀y a,ageIn (zs.foldl (λm z=>putAge z.1 z.2 m) l) y=some a->y<32
 |[],_,_,h=>h
 |z::zs,l,hz,h=>Zfv zs (putAge z.1 z.2 l) (λw hw=>hz w (mem_cons_of_mem _ hw)) λy a e=>by
  rw[Wi]at e
  split at e
  ·rename_i q
   have:=hz z mem_cons_self
   omega
  ·exact h y a e
theorem Zhl {zs:List (Nat×Nat)}(hz:∀z∈zs,z.1<32):∀y a,ageIn (Zcz zs) y=some a->y<32:=Zfv zs [] hz λy a e=>by cases e
theorem FD.putAge {kvs:List (Key×V)}{l:Ages}(h:FD kvs (ageIn l))(x a:Nat):FD (putK kvs (Sum.inl (x:Int)) (V.int (a:Int))) (ageIn (Vawctb.putAge x a l)):=(h.put x a).congr λy=>(Wi x a y l).symm
noncomputable section
variable {P:Program}{w:World}{K:W.Frag}{mg:Str->Option Value}{base:Heap}{C CB f:Addr}{fd:FuncData}
theorem Z1v:FnScope ["self","sure","possible"] ["self","sure","possible"] (Zf Ul):=#[5]
theorem Z1w (F:Fun K "__init__" "Bounds.__init__" Ul f fd)(T:TBounds K CB):FnOk P w K mg base CX0 1 f fd ["self","sure","possible"] (Vo CB 2 Tv):=by
 exists 0,Z1v
 ·obtain⟨p,dx,us,rfl,hl,hp,k⟩:=h
  match us,hl with
  |[a,b],_ =>
   refine⟨_,Zb (Yq (pv 0) (pv 1) rfl) (Zd (Yq (pv 0) (pv 2) rfl)),?_⟩
   refine⟨_,rfl,_,rfl,p,CB,dx,[],rfl,hp,T.cl,T.sure,(by show 0<1000;decide),?_⟩
   refine⟨_,rfl,_,rfl,p,CB,dx,_,rfl,Ze,T.cl,T.possible,(by show 1<1000;decide),?_⟩
   exact k _ Ze λb o e hb=>by rw[Zk hb,Zk hb];exact e
theorem Vd {CB:Addr}{H H3:Hp}{x dx ds dp:Addr}{b:Bounds}(nx:H x=none)(nd:H dx=none)(f3:H3 x=some (.ins CB dx (Tv [.ref ds,.ref dp])))(k3:∀b o,(upd (upd H dx (.own x)) x (.ins CB dx [])) b=some o->b≠x->H3 b=some o)
  (h1:DictAt H ds (ageIn b.sure)) (h2:DictAt H dp (ageIn b.maybe)):Same H H3/\BoundsAt CB H3 x b:=by
 have s3:=Same.made nx nd k3
 exact⟨s3,dx,_,ds,dp,f3,rfl,rfl,h1.same s3,h2.same s3⟩
noncomputable def Z7t (CB:Addr):Sp:=λvs H Q _=>∃(q:Addr) (sh:Vawctb.Shape) (c:Vawcta.Cache),vs=[.ref q]/\StateAt H q c/\CaOk sh c/\ShOk sh/\∀(H':Hp) (r:Addr),Same H H'->BoundsAt CB H' r (boundsOfState c)->Q (.ref r) H'
theorem Po:FnScope ["state","ages","held","age","line"] ["state"] (Zf Wa):=#[5]
theorem Pp (F:Fun K "bounds_of_state" "bounds_of_state" Wa f fd)(B:Blt mg)(kb:#[44]):FnOk P w K mg base CX0 3 f fd ["state"] (Z7t CB):=by
 exists 0,Po
 ·obtain⟨q,sh,c,rfl,hs,hc,h0,k⟩:=h
  have hu:=Z4d hr
  refine⟨_,Zb (#[0,1,Z3z])
   (Zb (Yy PassesOwn.never rfl (Zdx (pv 0)) (#[1,2])
    (Zd (Yy PassesOwn.never rfl (Zhf rfl B.n_enumerate (Za (pv 2) Zc)) (Te rfl (Yf (#[1,3]) (Yf (#[1,4]) Ww)))
     (Zd (Vr hu (pv 1) (pv 4) (pv 3) rfl)))))
   (Zd (Zj (Wz kb hr (Za (Vz Sr rfl B.n_dict Z4r (Za (pv 1) Zc)) (Za (Vz Sr rfl B.n_dict Z4r (Za (pv 1) Zc)) Zc)))))),?_⟩
  intro d hd
  obtain⟨s1,f1⟩:=newE hd (.dK [])
  generalize upd _ d _=H1 at s1 f1 ⊢
  obtain⟨as,g1,g2,g3⟩:=id hs
  have hline:∀(k:Nat) (l:List Nat),c[k]?=some l->∀y∈l,y<32:=λk l e y hy=>((hc.set k l e).2.2 y hy).2
  refine⟨_,rfl,q,rfl,⟨_,SqT.of (s1 _ _ g1)⟩,Ze0 (K:=K) (a:=q) (xs:=as.map V.ref) (λi σ H'=>∃(v2 v3 v4:Option V),σ=[some (.ref q),some (.ref d),v2,v3,v4]/\Same H H'/\DictAt H' d (ageIn (Zcz ((c.take i).flatMap λs=>s.zipIdx))))
   ⟨none,none,none,rfl,s1,[],f1,FD.nil⟩ (λi σ H' _ ⟨_,_,_,_,s2,_⟩=>SqT.of (s2 _ _ g1)) ?_ ?_⟩
  ·rintro i y σ H' hi ⟨v2,v3,v4,rfl,s2,kvs,f2,hf2⟩
   rw[getElem?_map]at hi
   cases ea:as[i]? with
   |none =>
    rw[ea]at hi
    cases hi
   |some a =>
    rw[ea]at hi
    have hi:V.ref a=y:=Option.some.inj hi
    subst hi
    have hil:i<c.length:=by rw[<-g2];exact(gse.mp ea).1
    obtain⟨l,el⟩:∃l,c[i]?=some l:=⟨_,getElem?_eq_getElem hil⟩
    have gl:=g3 i a l ea el
    refine⟨_,rfl,a,Zl l,rfl,SqT.of (s2 _ _ gl),Zfi (K:=K) (a:=a) (xs:=Zl l) (λj σ H'=>∃(v3 v4:Option V),σ=[some (.ref q),some (.ref d),some (.ref a),v3,v4]/\Same H H'/\DictAt H' d (ageIn (Zcz (((c.take i).flatMap λs=>s.zipIdx)++l.zipIdx.take j))))
     ⟨v3,v4,rfl,s2,kvs,f2,by rw[List.take_zero,append_nil];exact hf2⟩ (λj σ H' _ ⟨_,_,_,s3,_⟩=>SqT.of (s3 _ _ gl)) ?_ ?_⟩
    ·rintro j x T σ H3 hj ⟨v3,v4,rfl,s3,kvs3,f3,hf3⟩ hT
     obtain⟨n,hn,rfl⟩:=Yr hj
     obtain⟨s4,f4⟩:=newE hT (.tup [.int (j:Nat),.int (n:Nat)])
     generalize upd _ T _=H4 at s4 f4 ⊢
     have hn32:=hline i l el n (mem_of_getElem? hn)
     refine⟨T,_,rfl,SqT.of f4,rfl,_,_,rfl,_,_,rfl,rfl,_,rfl,_,rfl,_,rfl,d,_,rfl,DPut.k (k:=Sum.inl (n:Int)) (s4 _ _ f3) ?_,?_⟩
     ·refine Zg (Nat.le_trans (hf3.len (Zhl λz hz=>?_)) (by decide))
      rcases mem_append.mp hz with hz | hz
      ·obtain⟨s',hs',hz'⟩:=List.mem_flatMap.mp hz
       obtain⟨kk,hkk⟩:=List.getElem?_of_mem (List.mem_of_mem_take hs')
       obtain⟨m,hm,e⟩:=List.mem_iff_getElem.mp hz'
       rw[List.getElem_zipIdx]at e
       rw[<-e]
       exact hline kk s' hkk _ (List.getElem_mem _)
      ·obtain⟨m,hm,e⟩:=List.mem_iff_getElem.mp (List.mem_of_mem_take hz)
       rw[List.getElem_zipIdx]at e
       rw[<-e]
       exact hline i l el _ (List.getElem_mem _)
     ·obtain⟨s5,f5⟩:=chg (o:=.dK (putK kvs3 (Sum.inl (n:Int)) (.int (j:Nat)))) (s3.trans s4) hd
      refine⟨_,_,rfl,s5,_,f5,?_⟩
      have ez:l.zipIdx[j]?=some (n,j):=by rw[List.getElem?_zipIdx,hn];simp
      rw[Zw ez,<-append_assoc,Zd0]
      exact hf3.putAge n j
    ·rintro σ H3 ⟨v3,v4,rfl,s3,kvs3,f3,hf3⟩
     refine⟨_,_,_,rfl,s3,kvs3,f3,?_⟩
     rw[Zw el,List.flatMap_append,List.flatMap_cons,List.flatMap_nil,append_nil]
     have ezl:l.zipIdx.take l.length=l.zipIdx:=List.take_of_length_le (by rw[List.length_zipIdx];exact Nat.le_refl _)
     rw[Zi,ezl]at hf3
     exact hf3
  ·rintro σ H2 ⟨v2,v3,v4,rfl,s2,kvs,f2,hf2⟩
   rw[length_map,g2,take_length]at hf2
   refine⟨_,rfl,d,kvs,rfl,.inl f2,λd1 hd1=>?_⟩
   obtain⟨s3,f3⟩:=newE hd1 (.dK kvs)
   generalize upd _ d1 _=H3 at s3 f3 ⊢
   refine⟨_,rfl,d,kvs,rfl,.inl (s3 _ _ f2),λd2 hd2=>?_⟩
   obtain⟨s4,f4⟩:=newE hd2 (.dK kvs)
   generalize upd _ d2 _=H4 at s4 f4 ⊢
   intro x dx nx nd ne
   refine⟨x,dx,_,rfl,rfl,Ze,λH5 f5 k5=>⟨rfl,?_⟩⟩
   obtain⟨s5,b5⟩:=Vd (b:=boundsOfState c) nx nd f5 k5 ⟨kvs,s4 _ _ f3,hf2⟩ ⟨kvs,f4,hf2⟩
   exact k H5 x (((s2.trans s3).trans s4).trans s5) b5
end
structure Frz (H:Hp)(d:Addr)(od:Obj)(u:HO)(Hf:Hp):Prop where
 at_:Hf d=some (.frz od u)
 rest:∀b o,H b=some o->b≠d->Hf b=some o
theorem Frz.rd {H Hf:Hp}{d:Addr}{od:Obj}{u:HO}(h:Frz H d od u Hf)(hd:H d=some u){b:Addr}{o:HO}(e:H b=some o):Rd Hf b o:=by
 by_cases q:b=d
 ·subst q
  rw[hd]at e
  cases e
  exact .inr ⟨od,h.at_⟩
 ·exact .inl (h.rest b o e q)
theorem Frz.grow {H Hf:Hp}{d:Addr}{od:Obj}{u:HO}(h:Frz H d od u Hf){a:Addr}{o:HO}(ha:H a=none)(hda:a≠d):Frz H d od u (upd Hf a o) :=
 ⟨by rw[Zk (λz=>hda z.symm)];exact h.at_,λb o' e n=>by rw[Zk (Zm e ha)];exact h.rest b o' e n⟩
theorem Frz.new {H Hf:Hp}{d:Addr}{od:Obj}{u:HO}(h:Frz H d od u Hf){a:Addr}{o:HO}(ha:Hf a=none)(hd:H d=some u):Frz H d od u (upd Hf a o):=by
 have had:a≠d:=λz=>by rw[z,h.at_]at ha;cases ha
 refine⟨by rw[Zk (λz=>had z.symm)];exact h.at_,λb o' e n=>?_⟩
 have e2:=h.rest b o' e n
 rw[Zk (Zm e2 ha)]
 exact e2
theorem Frz.out {H Hf:Hp}{d:Addr}{od:Obj}{u:HO}(h:Frz H d od u Hf)(hd:H d=some u):Same H (upd Hf d u):=λb o e=>by
 by_cases q:b=d
 ·subst q
  rw[hd]at e
  cases e
  exact Ze
 ·rw[Zk q]
  exact h.rest b o e q
noncomputable def Lt32 (φ:Nat->Option Nat):Prop:=∀y a,φ y=some a->y<32
noncomputable section
variable {P:Program}{w:World}{K:W.Frag}{mg:Str->Option Value}{base:Heap}{C CB f:Addr}{fd:FuncData}
noncomputable def jS (φ ψ:Nat->Option Nat)(y:Nat):Option Nat:=(φ y).bind λs=>(ψ y).map λt=>max s t
noncomputable def Zfw:Sp:=λvs H Q _=>∃(d1 d2:Addr) (φ ψ:Nat->Option Nat),vs=[.ref d1,.ref d2]/\DictAt H d1 φ/\DictAt H d2 ψ/\Lt32 φ/\∀(H':Hp) (r:Addr),Same H H'->DictAt H' r (jS φ ψ)->Q (.ref r) H'
theorem Z1x:FnScope ["one","other","ages","line","age"] ["one","other"] (Zf Um):=#[5]
theorem Z1y (F:Fun K "joined_sure" "joined_sure" Um f fd)(B:Blt mg):FnOk P w K mg base CX0 1 f fd ["one","other"] Zfw:=by
 exists 0,Z1x
 ·obtain⟨d1,d2,φ,ψ,rfl,⟨k1,h1,hf1⟩,⟨k2,h2,hf2⟩,hlt,k⟩:=h
  have hu:=Z4d hr
  refine⟨_,Zb (#[0,2,Z3z])
   (Zb (Z9x (Yy PassesOwn.never rfl (Z4c (pv 0)) (Te rfl (Yf (#[1,3]) (Yf (#[1,4]) Ww)))
    (Zd (Yh (Zds (Z6y hu (pv 3) (pv 1)) rfl) (Zd (Vr hu (pv 2) (pv 3) (Yi (Z6j rfl) rfl B.n_max Zbj (Za (pv 4) (Za (Zen hu (pv 1) (pv 3) (λ_ _=>rfl)) Zc))) rfl)) Zr))))
   (Zd (Zj (pv 2)))),?_⟩
  intro da hda
  obtain⟨s1,f1⟩:=newE hda (.dK [])
  generalize upd _ da _=H1 at s1 f1 ⊢
  obtain⟨m,em,hn,hm,hit⟩:=hf1.item
  have hd1:=s1 _ _ h1
  have n1:da≠d1:=λz=>by rw[<-z,hda]at h1;cases h1
  refine⟨d1,_,hd1,True.intro,λod=>⟨_,rfl,d1,od,k1,rfl,Ze,Z0m (λi σ Hf=>∃(v3 v4:Option V),σ=[some (.ref d1),some (.ref d2),some (.ref da),v3,v4]/\Frz H d1 od (.dK k1) Hf/\DictAt Hf da (jS (ageIn (m.take i)) ψ))
   ⟨none,none,rfl,⟨Ze,λb o e n=>by rw[Zk n];exact s1 _ _ e⟩,[],by rw[Zk n1];exact f1,FD.nil⟩ (λi σ Hf ⟨_,_,_,z,_⟩=>z.at_) ?_ ?_⟩⟩
  ·rintro i kk v T σ Hf hi ⟨v3,v4,rfl,z,kv,f2,g2⟩ hT
   obtain⟨x,a,hx,rfl,rfl,hφ⟩:=hit i kk v hi
   have z3:=z.new (o:=.tup [kV (Sum.inl (x:Int)),.int (a:Nat)]) hT h1
   have f3:upd Hf T (.tup [kV (Sum.inl (x:Int)),.int (a:Nat)]) da=some (.dK kv):=by rw[Zk (Zm f2 hT)];exact f2
   have t3:upd Hf T (.tup [kV (Sum.inl (x:Int)),.int (a:Nat)]) T=some (.tup [kV (Sum.inl (x:Int)),.int (a:Nat)]):=Ze
   generalize upd Hf T _=H3 at z3 f3 t3 ⊢
   have r2:=z3.rd h1 h2
   have hg:valV k2 (Sum.inl (x:Int))=(ψ x).map λa=>V.int (a:Int):=hf2.get x
   have eT:∀y,jS (ageIn (m.take (i+1))) ψ y=if x=y then(ψ y).map (λt=>max a t) else jS (ageIn (m.take i)) ψ y:=λy=>by
    unfold jS
    rw[Ov hn hx]
    split
    ·rfl
    ·rfl
   refine⟨T,_,rfl,SqT.of t3,rfl,_,_,rfl,_,_,rfl,rfl,_,rfl,_,rfl,d2,_,rfl,.inl ⟨k2,Sum.inl (x:Int),r2,rfl,rfl⟩,_,rfl,?_⟩
   refine ite2 (λe=>?_) λe=>?_
   ·obtain⟨t,ht⟩:∃t,ψ x=some t:=by
     cases q:ψ x with
     |none =>
      rw[hg,q]at e
      cases e
     |some t=>exact⟨t,rfl⟩
    refine⟨_,rfl,_,rfl,_,rfl,d2,V.int (t:Int),rfl,.inl ⟨k2,Sum.inl (x:Int),r2,rfl,by rw[hg,ht];rfl⟩,_,_,rfl,_,rfl,_,rfl,da,_,rfl,DPut.k (k:=Sum.inl (x:Int)) f3 ?_,?_⟩
    ·refine Zg (Nat.le_trans (g2.len λy b hy=>?_) (by decide))
     unfold jS at hy
     cases q:ageIn (m.take i) y with
     |none =>
      rw[q]at hy
      cases hy
     |some c =>
      exact hlt y c (by rw[<-hm];exact Xc hn (List.mem_of_mem_take (Yz q)))
    ·have emax:(if(t:Int) > (a:Int) then(t:Int) else(a:Int))=((max a t:Nat):Int):=by split <;> omega
     refine⟨_,_,rfl,z3.grow hda n1,_,Ze,?_⟩
     rw[emax]
     refine(g2.put x (max a t)).congr λy=>?_
     rw[eT]
     by_cases exy:x=y
     ·subst exy
      rw[if_pos rfl,if_pos rfl,ht]
      rfl
     ·rw[if_neg exy,if_neg exy]
   ·have ht:ψ x=none:=by
     cases q:ψ x with
     |none=>rfl
     |some t =>
      rw[hg,q]at e
      exact absurd rfl e
    refine⟨_,_,rfl,z3,kv,f3,g2.congr λy=>?_⟩
    rw[eT]
    by_cases exy:x=y
    ·subst exy
     rw[if_pos rfl,ht]
     unfold jS
     rw[ht]
     cases ageIn (m.take i) x <;> rfl
    ·rw[if_neg exy]
  ·rintro σ Hf ⟨v3,v4,rfl,z,kv,f2,g2⟩
   refine⟨z.at_,_,rfl,k _ da (z.out h1) ⟨kv,Yl f2 n1,g2.congr λy=>?_⟩⟩
   unfold jS
   have el:m.take k1.length=m:=List.take_of_length_le (by rw[em];unfold enc;rw[length_map];exact Nat.le_refl _)
   rw[el,hm]
noncomputable def jM (φ ψ:Nat->Option Nat)(y:Nat):Option Nat:=minO (φ y) (ψ y)
noncomputable def Zfx:Sp:=λvs H Q _=>∃(d1 d2:Addr) (φ ψ:Nat->Option Nat),vs=[.ref d1,.ref d2]/\DictAt H d1 φ/\DictAt H d2 ψ/\Lt32 φ/\Lt32 ψ/\∀(H':Hp) (r:Addr),Same H H'->DictAt H' r (jM φ ψ)->Q (.ref r) H'
theorem Pq:FnScope ["one","other","ages","line","age"] ["one","other"] (Zf Wb):=#[5]
theorem Pr (F:Fun K "joined_possible" "joined_possible" Wb f fd)(B:Blt mg):FnOk P w K mg base CX0 1 f fd ["one","other"] Zfx:=by
 exists 0,Pq
 ·obtain⟨d1,d2,φ,ψ,rfl,⟨k1,h1,hf1⟩,⟨k2,h2,hf2⟩,hlt,hlt2,k⟩:=h
  have hu:=Z4d hr
  refine⟨_,Zb (#[0,2,Vz Sr rfl B.n_dict Z4r (Za (pv 0) Zc)])
   (Zb (Z9x (Yy PassesOwn.never rfl (Z4c (pv 1)) (Te rfl (Yf (#[1,3]) (Yf (#[1,4]) Ww)))
    (Zd (Vr hu (pv 2) (pv 3) (Yi (Ze7 rfl) rfl B.n_min Zl4 (Za (pv 4) (Za (Z4a hu (pv 2) (pv 3) (pv 4) ⟨rfl,rfl,rfl,rfl⟩) Zc))) rfl))))
   (Zd (Zj (pv 2)))),?_⟩
  refine⟨_,rfl,d1,k1,rfl,.inl h1,λda hda=>?_⟩
  obtain⟨s1,f1⟩:=newE hda (.dK k1)
  generalize upd _ da _=H1 at s1 f1 ⊢
  obtain⟨m,em,hn,hm,hit⟩:=hf2.item
  have hd2:=s1 _ _ h2
  have n1:da≠d2:=λz=>by rw[<-z,hda]at h2;cases h2
  refine⟨d2,_,hd2,True.intro,λod=>⟨_,rfl,d2,od,k2,rfl,Ze,Z0m (λi σ Hf=>∃(v3 v4:Option V),σ=[some (.ref d1),some (.ref d2),some (.ref da),v3,v4]/\Frz H d2 od (.dK k2) Hf/\DictAt Hf da (jM φ (ageIn (m.take i))))
   ⟨none,none,rfl,⟨Ze,λb o e n=>by rw[Zk n];exact s1 _ _ e⟩,k1,by rw[Zk n1];exact f1,hf1.congr λy=>by unfold jM;rw[List.take_zero];exact(Pg _).symm⟩ (λi σ Hf ⟨_,_,_,z,_⟩=>z.at_) ?_ ?_⟩⟩
  ·rintro i kk v T σ Hf hi ⟨v3,v4,rfl,z,kv,f2,g2⟩ hT
   obtain⟨x,a,hx,rfl,rfl,hψ⟩:=hit i kk v hi
   have z3:=z.new (o:=.tup [kV (Sum.inl (x:Int)),.int (a:Nat)]) hT h2
   have f3:upd Hf T (.tup [kV (Sum.inl (x:Int)),.int (a:Nat)]) da=some (.dK kv):=by rw[Zk (Zm f2 hT)];exact f2
   have t3:upd Hf T (.tup [kV (Sum.inl (x:Int)),.int (a:Nat)]) T=some (.tup [kV (Sum.inl (x:Int)),.int (a:Nat)]):=Ze
   generalize upd Hf T _=H3 at z3 f3 t3 ⊢
   have hnone:ageIn (m.take i) x=none:=Z7s hn hx
   have eT:∀y,jM φ (ageIn (m.take (i+1))) y=if x=y then minO (φ y) (some a) else jM φ (ageIn (m.take i)) y:=λy=>by
    unfold jM
    rw[Ov hn hx]
    split
    ·rfl
    ·rfl
   have hg:(valV kv (Sum.inl (x:Int))).getD (V.int (a:Int))=V.int (((φ x).getD a:Nat):Int):=by
    rw[g2.get x]
    unfold jM
    rw[hnone,Pg]
    cases φ x <;> rfl
   refine⟨T,_,rfl,SqT.of t3,rfl,_,_,rfl,_,_,rfl,rfl,_,rfl,_,rfl,da,rfl,.inl ⟨kv,.inl f3⟩,_,rfl,_,rfl,_,DGet.k (k:=Sum.inl (x:Int)) f3,(a:Int),(((φ x).getD a:Nat):Int),?_,_,rfl,_,rfl,da,_,rfl,DPut.k (k:=Sum.inl (x:Int)) f3 ?_,?_⟩
   ·rw[hg]
   ·refine Zg (Nat.le_trans (g2.len λy b hy=>?_) (by decide))
    unfold jM at hy
    cases q:φ y with
    |some c=>exact hlt y c q
    |none =>
     cases q2:ageIn (m.take i) y with
     |none =>
      rw[q,q2]at hy
      cases hy
     |some c=>exact hlt2 y c (by rw[<-hm];exact Xc hn (List.mem_of_mem_take (Yz q2)))
   ·have emin:(if(((φ x).getD a:Nat):Int)<(a:Int) then(((φ x).getD a:Nat):Int) else(a:Int))=((min ((φ x).getD a) a:Nat):Int):=by split <;> omega
    refine⟨_,_,rfl,z3.grow hda n1,_,Ze,?_⟩
    rw[emin]
    refine(g2.put x (min ((φ x).getD a) a)).congr λy=>?_
    rw[eT]
    by_cases exy:x=y
    ·subst exy
     rw[if_pos rfl,if_pos rfl]
     cases φ x with
     |none =>
      show some (min a a)=some a
      rw[Nat.min_self]
     |some c=>rfl
    ·rw[if_neg exy,if_neg exy]
  ·rintro σ Hf ⟨v3,v4,rfl,z,kv,f2,g2⟩
   refine⟨z.at_,_,rfl,k _ da (z.out h2) ⟨kv,Yl f2 n1,g2.congr λy=>?_⟩⟩
   unfold jM
   have el:m.take k2.length=m:=List.take_of_length_le (by rw[em];unfold enc;rw[length_map];exact Nat.le_refl _)
   rw[el,hm]
end
theorem Ss {ta tb:TE}{σ:L2.St}{H:Hp}{Q:VK}(c d:Bool)(h1:∀R:VK,R (.bl c) H->ta σ H R)(h2:∀R:VK,R (.bl d) H->tb σ H R)(h:Q (.bl (c&&d)) H):Zke ta tb σ H Q:=by
 refine h1 _ ⟨c,rfl,?_⟩
 cases c with
 |false=>exact h
 |true=>exact h2 Q h
theorem Ve {p1 p2:Int->Int->Bool}{ta tb tc:TE}{σ:L2.St}{H:Hp}{Q:VK}(i j k:Int)(h1:∀R:VK,R (.int i) H->ta σ H R)(h2:∀R:VK,R (.int j) H->tb σ H R)(h3:∀R:VK,R (.int k) H->tc σ H R)(h:Q (.bl (p1 i j&&p2 j k)) H) :
  Ze6 (rI0 λi j=>.bl (p1 i j)) (rI0 λi j=>.bl (p2 i j)) ta tb tc σ H Q:=by
 refine h1 _ (h2 _ ⟨i,j,rfl,rfl,_,rfl,?_⟩)
 cases q:p1 i j with
 |false =>
  rw[q]at h
  exact h
 |true =>
  rw[q]at h
  exact h3 _ ⟨j,k,rfl,rfl,h⟩
theorem Z0n {ta tb:TE}{σ:L2.St}{H:Hp}{Q:VK}(c d:Bool)(h1:∀R:VK,R (.bl c) H->ta σ H R)(h2:∀R:VK,R (.bl d) H->tb σ H R)(h:Q (.bl (c||d)) H):tOrV ta tb σ H Q:=by
 refine h1 _ ⟨c,rfl,?_⟩
 cases c with
 |false=>exact h2 Q h
 |true=>exact h
noncomputable section
variable {P:Program}{w:World}{K:W.Frag}{mg:Str->Option Value}{base:Heap}{C CB f:Addr}{fd:FuncData}
theorem GoodA.lt32 {sh:Vawctb.Shape}{l:Ages}(h:GoodA sh l):Lt32 (ageIn l):=λy a e=>(h.lt y a e).2
theorem Zm7 {sh:Vawctb.Shape}{a b:Bounds}(h:GoodB sh a)(y:Nat):jS (ageIn a.sure) (ageIn b.sure) y=ageIn (joinBounds a b).sure y:=by
 rw[Tl,Wx _ _ h.sure.srt]
 rfl
theorem Zm8 {sh:Vawctb.Shape}{a b:Bounds}(h:GoodB sh b)(y:Nat):jM (ageIn a.maybe) (ageIn b.maybe) y=ageIn (joinBounds a b).maybe y:=by
 rw[Uh,Wr _ _ h.maybe.srt]
 rfl
theorem DictAt.congr {H:Hp}{d:Addr}{φ ψ:Nat->Option Nat}(h:DictAt H d φ)(e:∀y,φ y=ψ y):DictAt H d ψ:=by
 obtain⟨kvs,h1,h2⟩:=h
 exact⟨kvs,h1,h2.congr e⟩
noncomputable def Zio (CB:Addr):Sp:=λvs H Q _=>∃(r1 r2:Addr) (sh:Vawctb.Shape) (a b:Bounds),vs=[.ref r1,.ref r2]/\BoundsAt CB H r1 a/\BoundsAt CB H r2 b/\GoodB sh a/\GoodB sh b/\∀(H':Hp) (r:Addr),Same H H'->BoundsAt CB H' r (joinBounds a b)->Q (.ref r) H'
theorem Zfy:FnScope ["one","other"] ["one","other"] (Zf Z4x):=#[5]
theorem Zfz (F:Fun K "joined" "joined" Z4x f fd)(T:TBounds K CB)(kb:#[44])(kS:#[67])(kM:#[68]) :
  FnOk P w K mg base CX0 3 f fd ["one","other"] (Zio CB):=by
 exists 0,Zfy
 ·obtain⟨r1,r2,sh,a,b,rfl,hB1,hB2,ga,gb,k⟩:=h
  have hr1:Room 1 _:=hr.mono (by decide)
  refine⟨_,Zd (Zj (Wz kb hr (Za (Zs kS hr1 (Za (Zh (pv 0) rfl) (Za (Zh (pv 1) rfl) Zc))) (Za (Zs kM hr1 (Za (Zh (pv 0) rfl) (Za (Zh (pv 1) rfl) Zc))) Zc)))),?_⟩
  obtain⟨dx1,fs1,ds1,dp1,e1,e2,e3,e4,e5⟩:=id hB1
  obtain⟨dx2,fs2,ds2,dp2,g1,g2,g3,g4,g5⟩:=id hB2
  refine⟨_,rfl,r1,CB,dx1,fs1,_,rfl,e1,T.cl,T.sure,e2,_,rfl,r2,CB,dx2,fs2,_,rfl,g1,T.cl,T.sure,g2,ds1,ds2,_,_,rfl,e4,g4,ga.sure.lt32,λH1 u1 s1 b1=>?_⟩
  refine⟨_,rfl,r1,CB,dx1,fs1,_,rfl,s1 _ _ e1,T.cl,T.possible,e3,_,rfl,r2,CB,dx2,fs2,_,rfl,s1 _ _ g1,T.cl,T.possible,g3,dp1,dp2,_,_,rfl,e5.same s1,g5.same s1,ga.maybe.lt32,gb.maybe.lt32,λH2 u2 s2 b2=>?_⟩
  intro x dx nx nd ne
  refine⟨x,dx,_,rfl,rfl,Ze,λH5 f5 k5=>⟨rfl,?_⟩⟩
  obtain⟨s5,b5⟩:=Vd (b:=joinBounds a b) nx nd f5 k5 ((b1.same s2).congr λy=>Zm7 ga y) (b2.congr λy=>Zm8 gb y)
  exact k H5 x ((s1.trans s2).trans s5) b5
noncomputable def OptAt (CB:Addr)(H:Hp)(v:V)(o:Option Bounds):Prop:=match o with
 |none=>v=.non
 |some b=>∃r,v=.ref r/\BoundsAt CB H r b
theorem OptAt.same {CB:Addr}{H H':Hp}{v:V}{o:Option Bounds}(h:OptAt CB H v o)(s:Same H H'):OptAt CB H' v o:=by
 cases o with
 |none=>exact h
 |some b =>
  obtain⟨r,h1,h2⟩:=h
  exact⟨r,h1,h2.same s⟩
noncomputable def Zhm (o:Option Bounds)(b:Bounds):Bounds:=match o with
 |none=>b
 |some a=>joinBounds a b
noncomputable def Z7u (CB:Addr):Sp:=λvs H Q _=>∃(v:V) (r2:Addr) (sh:Vawctb.Shape) (o:Option Bounds) (b:Bounds),vs=[v,.ref r2]/\OptAt CB H v o/\BoundsAt CB H r2 b/\OkO sh o/\GoodB sh b/\∀(H':Hp) (r:Addr),Same H H'->BoundsAt CB H' r (Zhm o b)->Q (.ref r) H'
theorem Mp:FnScope ["one","other"] ["one","other"] (Zf Vb):=#[5]
theorem Mq (F:Fun K "joined_if_any" "joined_if_any" Vb f fd)(kJ:#[69]):FnOk P w K mg base CX0 4 f fd ["one","other"] (Z7u CB):=by
 exists 0,Mp
 ·obtain⟨v,r2,sh,o,b,rfl,hO,hB,ho,gb,k⟩:=h
  refine⟨_,Zd (Zj (Wg (Zo Xp (pv 0) Yb rfl) (pv 1) (Zs kJ hr (Za (pv 0) (Za (pv 1) Zc))))),?_⟩
  refine⟨_,rfl,rfl,_,rfl,?_⟩
  cases o with
  |none =>
   have hO:v=.non:=hO
   subst hO
   exact⟨_,rfl,k H r2 (Same.refl H) hB⟩
  |some a =>
   obtain⟨r,rfl,hA⟩:=hO
   exact⟨_,rfl,_,rfl,r,r2,sh,a,b,rfl,hA,hB,(ho a rfl).good,gb,λH' t s' hb=>k H' t s' hb⟩
noncomputable def Zip (C:Addr):Sp:=λvs H Q _=>∃(p d:Addr) (sh:Vawctb.Shape) (φ:Nat->Option Nat) (x:Nat) (z:Int),vs=[.ref p,.ref d,.int x,.int z]/\CacheAt C H p sh/\ShOk sh/\DictAt H d φ/\Lt32 φ/\
 ∀(H':Hp) (r:Addr),Same H H'->H r=none->DictAt H' r (λy=>(φ y).bind (Xq sh x (λa=>decide ((a:Int)<=z)) y))->Q (.ref r) H'
theorem Zju:FnScope ["cache","ages","line","oldest","room","told","other","age","grows"] ["cache","ages","line","oldest"] (Zf Zfu):=#[5]
theorem Zjv (F:Fun K "aged" "aged" Zfu f fd)(kR:#[40])(kS:#[51]):FnOk P w K mg base CX0 3 f fd ["cache","ages","line","oldest"] (Zip C):=by
 exists 0,Zju
 ·obtain⟨p,d,sh,φ,x,z,rfl,hC,h0,⟨kd,hd,hfd⟩,hlt,k⟩:=h
  have hu:=Z4d hr
  have hr1:Room 1 _:=hr.mono (by decide)
  refine⟨_,Zb (#[0,4,Zs kR hr (Za (pv 0) (Za (pv 2) Zc))])
   (Zb (#[0,5,Z3z])
   (Zb (Z9x (Yy PassesOwn.never rfl (Z4c (pv 1)) (Te rfl (Yf (#[1,6]) (Yf (#[1,7]) Ww)))
    (Zb (#[0,8,Zay (Zs kS hr1 (Za (pv 0) (Za (pv 2) (Za (pv 6) Zc)))) (Zay (Xx Zj2 (pv 6) (pv 2) (Xs _)) (Jn (Xx Ol (pv 7) (pv 3) (Xs _))))])
    (Zd (Yh (Wh (Xf (pv 8))) (Zd (Vr hu (pv 5) (pv 6) (pv 7) rfl))
     (Zd (Yh (Zo Z9q (Ym Xe (pv 7) Zn) (pv 4) (Xs _)) (Zd (Vr hu (pv 5) (pv 6) (Ym Xe (pv 7) Zn) rfl)) Zr)))))))
   (Zd (Zj (pv 5))))),?_⟩
  refine⟨_,rfl,_,rfl,p,sh,x,rfl,hC,h0,λH1 s1=>?_⟩
  intro da hda
  obtain⟨s2,f2⟩:=newE hda (.dK [])
  generalize upd _ da _=H2 at s2 f2 ⊢
  obtain⟨m,em,hn,hm,hit⟩:=hfd.item
  have hd1:=s1 _ _ hd
  have hd2:=s2 _ _ hd1
  have n1:da≠d:=λq=>by rw[<-q,hda]at hd1;cases hd1
  generalize hG:(λy a=>Xq sh x (λa=>decide ((a:Int)<=z)) y a)=G
  refine⟨d,_,hd2,True.intro,λod=>⟨_,rfl,d,od,kd,rfl,Ze,Z0m (λi σ Hf=>∃(v6 v7 v8:Option V),σ=[some (.ref p),some (.ref d),some (.int x),some (.int z),some (.int (Vawctb.room sh (x % sh.sets):Nat)),some (.ref da),v6,v7,v8]/\Frz H1 d od (.dK kd) Hf/\DictAt Hf da (λy=>(ageIn (m.take i) y).bind (G y)))
   ⟨none,none,none,rfl,⟨Ze,λb o e n=>by rw[Zk n];exact s2 _ _ e⟩,[],by rw[Zk n1];exact f2,FD.nil⟩ (λi σ Hf ⟨_,_,_,_,z,_⟩=>z.at_) ?_ ?_⟩⟩
  ·rintro i kk v T σ Hf hi ⟨v6,v7,v8,rfl,zf,kv,f3,g3⟩ hT
   obtain⟨y,a,hy,rfl,rfl,hφ⟩:=hit i kk v hi
   have z4:=zf.new (o:=.tup [kV (Sum.inl (y:Int)),.int (a:Nat)]) hT hd1
   have f4:upd Hf T (.tup [kV (Sum.inl (y:Int)),.int (a:Nat)]) da=some (.dK kv):=by rw[Zk (Zm f3 hT)];exact f3
   have t4:upd Hf T (.tup [kV (Sum.inl (y:Int)),.int (a:Nat)]) T=some (.tup [kV (Sum.inl (y:Int)),.int (a:Nat)]):=Ze
   generalize upd Hf T _=H4 at z4 f4 t4 ⊢
   have hC4:CacheAt C H4 p sh:=by
    obtain⟨dx,fs,c1,c2,c3,c4,la,c5,c6⟩:=hC
    exact⟨dx,fs,z4.rest _ _ (s1 _ _ c1) (Xl c1 hd (by intro q;cases q)),c2,c3,c4,la,c5,z4.rest _ _ (s1 _ _ c6) (Xl c6 hd (by intro q;cases q))⟩
   have eT:∀w,(ageIn (m.take (i+1)) w).bind (G w)=if y=w then G w a else(ageIn (m.take i) w).bind (G w):=λw=>by
    rw[Ov hn hy]
    split
    ·rfl
    ·rfl
   have hlen:kv.length<sizeLine:=by
    refine Zg (Nat.le_trans (g3.len λw b hw=>?_) (by decide))
    cases q:ageIn (m.take i) w with
    |none =>
     have hw:(ageIn (m.take i) w).bind (G w)=some b:=hw
     rw[q]at hw
     cases hw
    |some c=>exact hlt w c (by rw[<-hm];exact Xc hn (List.mem_of_mem_take (Yz q)))
   refine⟨T,_,rfl,SqT.of t4,rfl,_,_,rfl,_,_,rfl,rfl,?_⟩
   refine Ss (decide (x % sh.sets=y % sh.sets)) ((y != x)&&decide ((a:Int)<=z)) (λR h=>⟨_,rfl,_,rfl,_,rfl,p,sh,x,y,rfl,hC4,h0,h⟩)
    (λR h=>Ss (y != x) (decide ((a:Int)<=z)) (λR h=>⟨_,rfl,_,rfl,rfl,?_⟩) (λR h=>⟨_,rfl,_,rfl,_,_,rfl,rfl,h⟩) h) ?_
   ·have ey:(!decide (V.int (y:Int)=V.int (x:Int)))=(y != x):=by rw[Xm];rfl
    show R (.bl (!decide (V.int (y:Int)=V.int (x:Int)))) H4
    rw[ey]
    exact h
   generalize hg:(decide (x % sh.sets=y % sh.sets)&&((y != x)&&decide ((a:Int)<=z)))=g
   have hGy:G y a=if g=true then(if a+1<Vawctb.room sh (x % sh.sets) then some (a+1) else none) else some a:=by
    rw[<-hG,<-hg]
    show Xq sh x (λa=>decide ((a:Int)<=z)) y a=_
    unfold Xq
    have e1:(y % sh.sets==x % sh.sets&&y != x&&decide ((a:Int)<=z))=(decide (x % sh.sets=y % sh.sets)&&((y != x)&&decide ((a:Int)<=z))):=by
     have e2:(y % sh.sets==x % sh.sets)=decide (x % sh.sets=y % sh.sets):=by
      rw[Bool.eq_iff_iff]
      simp only[decide_eq_true_eq,beq_iff_eq]
      omega
     rw[e2,Bool.and_assoc]
    rw[e1]
   refine⟨_,rfl,_,rfl,?_⟩
   refine ite2 (λe=>?_) λe=>?_
   ·have eg:¬g=true:=λq=>by rw[q]at e;cases e
    rw[if_neg eg]at hGy
    refine⟨_,rfl,_,rfl,_,rfl,da,_,rfl,DPut.k (k:=Sum.inl (y:Int)) f4 hlen,_,_,_,rfl,z4.grow hda n1,_,Ze,?_⟩
    refine(g3.put y a).congr λw=>?_
    rw[eT]
    by_cases q:y=w
    ·subst q
     rw[if_pos rfl,if_pos rfl,hGy]
    ·rw[if_neg q,if_neg q]
   ·have eg:g=true:=by
     cases q:g with
     |true=>rfl
     |false =>
      rw[q]at e
      exact absurd rfl e
    rw[if_pos eg]at hGy
    refine⟨_,rfl,_,_,rfl,rfl,_,rfl,_,_,rfl,rfl,_,rfl,?_⟩
    refine ite2 (λe2=>?_) λe2=>?_
    ·have e3:a+1<Vawctb.room sh (x % sh.sets):=by
      have:=of_decide_eq_true e2
      omega
     rw[if_pos e3]at hGy
     refine⟨_,rfl,_,_,rfl,rfl,_,rfl,_,rfl,da,_,rfl,DPut.k (k:=Sum.inl (y:Int)) f4 hlen,_,_,_,rfl,z4.grow hda n1,_,Ze,?_⟩
     have e4:(a:Int)+1=((a+1:Nat):Int):=by omega
     show FD (putK kv (Sum.inl (y:Int)) (V.int ((a:Int)+1))) _
     rw[e4]
     refine(g3.put y (a+1)).congr λw=>?_
     rw[eT]
     by_cases q:y=w
     ·subst q
      rw[if_pos rfl,if_pos rfl,hGy]
     ·rw[if_neg q,if_neg q]
    ·have e3:¬a+1<Vawctb.room sh (x % sh.sets):=λq=>e2 (decide_eq_true (by omega))
     rw[if_neg e3]at hGy
     refine⟨_,_,_,rfl,z4,kv,f4,g3.congr λw=>?_⟩
     rw[eT]
     by_cases q:y=w
     ·subst q
      have hnone:ageIn (m.take i) y=none:=Z7s hn hy
      rw[if_pos rfl,hGy,hnone]
      rfl
     ·rw[if_neg q]
  ·rintro σ Hf ⟨v6,v7,v8,rfl,zf,kv,f3,g3⟩
   refine⟨zf.at_,_,rfl,k _ da (s1.trans (zf.out hd1)) (s1.free hda) ⟨kv,Yl f3 n1,g3.congr λy=>?_⟩⟩
   have el:m.take kd.length=m:=List.take_of_length_le (by rw[em];unfold enc;rw[length_map];exact Nat.le_refl _)
   rw[el,hm,<-hG]
end
theorem Qc {sh:Vawctb.Shape}{x:Nat}{l:Ages}{p p':Nat->Bool}(h:∀y a,ageIn l y=some a->y % sh.sets=x % sh.sets->p a=p' a)(y:Nat):(ageIn l y).bind (Xq sh x p y)=(ageIn l y).bind (Xq sh x p' y):=by
 cases q:ageIn l y with
 |none=>rfl
 |some a =>
  show Xq sh x p y a=Xq sh x p' y a
  unfold Xq
  by_cases e:y % sh.sets=x % sh.sets
  ·rw[h y a q e]
  ·have e':(y % sh.sets==x % sh.sets)=false:=beq_eq_false_iff_ne.mpr e
   rw[e',Bool.false_and,Bool.false_and,Bool.false_and]
theorem Ox {sh:Vawctb.Shape}{x:Nat}{l:Ages}(h:Srt l)(p:Nat->Bool)(y:Nat):ageIn (older sh x p l) y=(ageIn l y).bind (Xq sh x p y):=by rw[Z4j,Wx _ _ h]
theorem Wc {sh:Vawctb.Shape}{x a:Nat}{l:Ages}(h:0<Vawctb.room sh (x % sh.sets))(y:Nat):ageIn (Vawctb.placed sh x a l) y=if x=y then some a else ageIn l y:=by
 unfold Vawctb.placed
 rw[if_pos h,Wi]
theorem Za7 {sh:Vawctb.Shape}{b:Bounds}(g:GoodB sh b){x:Nat}(hx:x<32)(h0:Vawctb.room sh (x % sh.sets)=0):touchBounds sh b x=b:=by
 cases hl:isLocked sh x with
 |true =>
  unfold touchBounds
  rw[if_pos hl]
 |false =>
  have g':=Oo g hx
  have hR:Rm sh x=0:=h0
  have hS:=g.sure.le x
  have hM:=g.maybe.le x
  cases hr:sh.oldest with
  |false =>
   have e1:(touchBounds sh b x).sure=b.sure:=g'.sure.ext g.sure λy=>by
    rw[Ru g hl hr]
    split
    ·rename_i q
     subst q
     omega
    ·split
     ·omega
     ·rfl
   have e2:(touchBounds sh b x).maybe=b.maybe:=g'.maybe.ext g.maybe λy=>by
    rw[Tm g hl hr]
    split
    ·rename_i q
     subst q
     omega
    ·split
     ·rename_i q
      have hy:=g.maybe.le y
      have er:Rm sh y=Rm sh x:=by show Vawctb.room sh _=Vawctb.room sh _;rw[q.1]
      unfold up
      omega
     ·rfl
   cases hb:touchBounds sh b x
   cases b
   rw[hb]at e1 e2
   exact congr (congrArg _ e1) e2
  |true =>
   have hs:val sh b.sure x=Rm sh x:=by omega
   have e1:(touchBounds sh b x).sure=b.sure:=g'.sure.ext g.sure λy=>by
    rw[Wy g hl hr hs]
    split
    ·rename_i q
     subst q
     split <;> omega
    ·split
     ·rename_i q
      have hy:=g.sure.le y
      have er:Rm sh y=Rm sh x:=by show Vawctb.room sh _=Vawctb.room sh _;rw[q]
      unfold up
      omega
     ·rfl
   have e2:(touchBounds sh b x).maybe=b.maybe:=g'.maybe.ext g.maybe λy=>by
    rw[Wj g hl hr hs]
    split
    ·rename_i q
     subst q
     omega
    ·split
     ·rename_i q
      have hy:=g.maybe.le y
      have er:Rm sh y=Rm sh x:=by show Vawctb.room sh _=Vawctb.room sh _;rw[q.1]
      unfold up
      omega
     ·rfl
   cases hb:touchBounds sh b x
   cases b
   rw[hb]at e1 e2
   exact congr (congrArg _ e1) e2
noncomputable section
variable {P:Program}{w:World}{K:W.Frag}{mg:Str->Option Value}{base:Heap}{C CB f:Addr}{fd:FuncData}
noncomputable def Zbm (C CB:Addr)(old:Bool):Sp:=λvs H Q _=>∃(p r:Addr) (sh:Vawctb.Shape) (b:Bounds) (x:Nat),vs=[.ref p,.ref r,.int x]/\CacheAt C H p sh/\ShOk sh/\BoundsAt CB H r b/\GoodB sh b/\x<32/\isLocked sh x=false/\sh.oldest=old/\0<Vawctb.room sh (x % sh.sets)/\
 ∀(H':Hp) (t:Addr),Same H H'->BoundsAt CB H' t (touchBounds sh b x)->Q (.ref t) H'
theorem Su {H H':Hp}{d:Addr}{φ:Nat->Option Nat}(h:DictAt H d φ)(hl:Lt32 φ)(x a:Nat):∃kvs,H d=some (.dK kvs)/\kvs.length<sizeLine/\DictAt (upd H d (.dK (putK kvs (Sum.inl (x:Int)) (V.int (a:Int))))) d (λy=>if x=y then some a else φ y):=by
 obtain⟨kvs,h1,h2⟩:=h
 exact⟨kvs,h1,Zg (Nat.le_trans (h2.len hl) (by decide)),_,Ze,h2.put x a⟩
theorem DictAt.but {H:Hp}{d m:Addr}{o:HO}{φ:Nat->Option Nat}(h:DictAt H d φ)(n:d≠m):DictAt (upd H m o) d φ:=by
 obtain⟨kv,h1,h2⟩:=h
 exact⟨kv,Yl h1 n,h2⟩
theorem Tw {sh:Vawctb.Shape}{x:Nat}{p:Nat->Bool}{φ:Nat->Option Nat}(h:Lt32 φ):Lt32 (λy=>(φ y).bind (Xq sh x p y)):=λy a e=>by
 cases q:φ y with
 |none =>
  have e:(φ y).bind (Xq sh x p y)=some a:=e
  rw[q]at e
  cases e
 |some c=>exact h y c q
theorem Rb:FnScope ["cache","bounds","line","room","sure","possible"] ["cache","bounds","line"] (Zf Xn):=#[5]
theorem Rc (F:Fun K "touched_by_rule_0" "touched_by_rule_0" Xn f fd)(T:TBounds K CB)(kb:#[44])(kR:#[40])(kA:#[54]) :
  FnOk P w K mg base CX0 4 f fd ["cache","bounds","line"] (Zbm C CB false):=by
 exists 0,Rb
 ·obtain⟨p,r,sh,b,x,rfl,hC,h0,hB,gb,hx,hl,ho,hroom,k⟩:=h
  have hu:=Z4d hr
  have hr2:Room 2 _:=hr.mono (by decide)
  refine⟨_,Zb (#[0,3,Zs kR hr2 (Za (pv 0) (Za (pv 2) Zc))])
   (Zb (#[0,4,Zs kA hr (Za (pv 0) (Za (Zh (pv 1) rfl) (Za (pv 2) (Za (Ym Ze1 (Z4a hu (Zh (pv 1) rfl) (pv 2) (pv 3) ⟨rfl,rfl,rfl,rfl⟩) Zn) Zc))))])
   (Zb (#[0,5,Zs kA hr (Za (pv 0) (Za (Zh (pv 1) rfl) (Za (pv 2) (Za (Z4a hu (Zh (pv 1) rfl) (pv 2) (pv 3) ⟨rfl,rfl,rfl,rfl⟩) Zc))))])
   (Zb (Vr hu (pv 4) (pv 2) Zn rfl) (Zb (Vr hu (pv 5) (pv 2) Zn rfl)
   (Zd (Zj (Wz kb hr2 (Za (pv 4) (Za (pv 5) Zc))))))))),?_⟩
  generalize hR:Vawctb.room sh (x % sh.sets)=R at hroom
  refine⟨_,rfl,_,rfl,p,sh,x,rfl,hC,h0,λH1 s1=>?_⟩
  rw[hR]
  obtain⟨dx,fs,ds,dp,e1,e2,e3,⟨ks,e4,e4'⟩,⟨kp,e5,e5'⟩⟩:=id (hB.same s1)
  have gs:(valV ks (Sum.inl (x:Int))).getD (V.int (R:Int))=V.int (((ageIn b.sure x).getD R:Nat):Int):=by
   rw[e4'.get x]
   cases ageIn b.sure x <;> rfl
  have gm:(valV kp (Sum.inl (x:Int))).getD (V.int (R:Int))=V.int (((ageIn b.maybe x).getD R:Nat):Int):=by
   rw[e5'.get x]
   cases ageIn b.maybe x <;> rfl
  refine⟨_,rfl,_,rfl,r,CB,dx,fs,_,rfl,e1,T.cl,T.sure,e2,_,rfl,_,rfl,r,CB,dx,fs,_,rfl,e1,T.cl,T.sure,e2,ds,rfl,.inl ⟨ks,.inl e4⟩,_,rfl,_,rfl,_,DGet.k (k:=Sum.inl (x:Int)) e4,_,_,gs,rfl,p,ds,sh,ageIn b.sure,x,_,rfl,hC.same s1,h0,⟨ks,e4,e4'⟩,gb.sure.lt32,λH2 t2 s2 n2 b2=>?_⟩
  have e1':=s2 _ _ e1
  have e5'':=s2 _ _ e5
  refine⟨_,rfl,_,rfl,r,CB,dx,fs,_,rfl,e1',T.cl,T.possible,e3,_,rfl,_,rfl,r,CB,dx,fs,_,rfl,e1',T.cl,T.possible,e3,dp,rfl,.inl ⟨kp,.inl e5''⟩,_,rfl,_,rfl,_,DGet.k (k:=Sum.inl (x:Int)) e5'',p,dp,sh,ageIn b.maybe,x,_,(by rw[gm];rfl),(hC.same s1).same s2,h0,⟨kp,e5'',e5'⟩,gb.maybe.lt32,λH3 t3 s3 n3 b3=>?_⟩
  have n23:t2≠t3:=λq=>by
   obtain⟨kv,hkv,_⟩:=b2
   rw[q,n3]at hkv
   cases hkv
  have fr2:H t2=none:=s1.free n2
  have fr3:H t3=none:=s1.free (s2.free n3)
  obtain⟨k4,f4,l4,d4⟩:=Su (H':=H3) (b2.same s3) (Tw gb.sure.lt32) x 0
  refine⟨_,rfl,_,rfl,t2,_,rfl,DPut.k (k:=Sum.inl (x:Int)) f4 l4,?_⟩
  obtain⟨s4,_⟩:=chg (o:=.dK (putK k4 (Sum.inl (x:Int)) (V.int 0))) ((s1.trans s2).trans s3) fr2
  have b4:=b3.but (o:=.dK (putK k4 (Sum.inl (x:Int)) (V.int 0))) (λq=>n23 q.symm)
  change DictAt (upd H3 t2 (.dK (putK k4 (Sum.inl (x:Int)) (V.int 0)))) t2 _ at d4
  generalize upd H3 t2 _=H4 at s4 b4 d4 ⊢
  obtain⟨k5,f5,l5,d5⟩:=Su (H':=H4) b4 (Tw gb.maybe.lt32) x 0
  refine⟨_,rfl,_,rfl,t3,_,rfl,DPut.k (k:=Sum.inl (x:Int)) f5 l5,?_⟩
  obtain⟨s5,_⟩:=chg (o:=.dK (putK k5 (Sum.inl (x:Int)) (V.int 0))) s4 fr3
  have b5:=d4.but (o:=.dK (putK k5 (Sum.inl (x:Int)) (V.int 0))) n23
  change DictAt (upd H4 t3 (.dK (putK k5 (Sum.inl (x:Int)) (V.int 0)))) t3 _ at d5
  generalize upd H4 t3 _=H5 at s5 b5 d5 ⊢
  refine⟨_,rfl,_,rfl,λu du nu nd ne=>⟨u,du,_,rfl,rfl,Ze,λH6 f6 k6=>⟨rfl,?_⟩⟩⟩
  have eb:touchBounds sh b x=⟨Vawctb.placed sh x 0 (older sh x (λa=>match ageIn b.sure x with
    |some s=>decide (a<s)
    |none=>true) b.sure),Vawctb.placed sh x 0 (older sh x (λa=>match ageIn b.maybe x with
    |some s=>decide (a<=s)
    |none=>true) b.maybe)⟩:=by
   unfold touchBounds
   rw[if_neg (by rw[hl];exact Bool.false_ne_true),if_pos (by rw[ho];rfl)]
   rfl
  refine(λ(hh:Same H5 H6/\BoundsAt CB H6 u (touchBounds sh b x))=>k H6 u (s5.trans hh.1) hh.2) (Vd nu nd f6 k6 (b5.congr λy=>?_) (d5.congr λy=>?_))
  ·rw[eb,Wc (by rw[hR];exact hroom),Ox gb.sure.srt]
   split
   ·rfl
   ·refine Qc (λw a hw e=>?_) y
    have hwl:=(gb.sure.lt w a hw).1
    have er:Rm sh w=R:=by show Vawctb.room sh (w % sh.sets)=R;rw[e,hR]
    cases q:ageIn b.sure x with
    |none =>
     show decide ((a:Int)<=((R:Nat):Int)-1)=true
     exact decide_eq_true (by omega)
    |some c =>
     show decide ((a:Int)<=((c:Nat):Int)-1)=decide (a<c)
     rw[Bool.eq_iff_iff]
     simp only[decide_eq_true_eq]
     omega
  ·rw[eb,Wc (by rw[hR];exact hroom),Ox gb.maybe.srt]
   split
   ·rfl
   ·refine Qc (λw a hw e=>?_) y
    have hwl:=(gb.maybe.lt w a hw).1
    have er:Rm sh w=R:=by show Vawctb.room sh (w % sh.sets)=R;rw[e,hR]
    cases q:ageIn b.maybe x with
    |none =>
     show decide ((a:Int)<=((R:Nat):Int))=true
     exact decide_eq_true (by omega)
    |some c =>
     show decide ((a:Int)<=((c:Nat):Int))=decide (a<=c)
     rw[Bool.eq_iff_iff]
     simp only[decide_eq_true_eq]
     omega
theorem Re:FnScope ["cache","bounds","line","room","sure","possible"] ["cache","bounds","line"] (Zf Xo):=#[5]
theorem Rf (F:Fun K "touched_by_rule_1" "touched_by_rule_1" Xo f fd)(B:Blt mg)(T:TBounds K CB)(kb:#[44])(kR:#[40])(kA:#[54]) :
  FnOk P w K mg base CX0 4 f fd ["cache","bounds","line"] (Zbm C CB true):=by
 exists 0,Re
 ·obtain⟨p,r,sh,b,x,rfl,hC,h0,hB,gb,hx,hl,ho,hroom,k⟩:=h
  have hu:=Z4d hr
  have hr2:Room 2 _:=hr.mono (by decide)
  refine⟨_,Zb (Yh (Zds (Z6y hu (pv 2) (Zh (pv 1) rfl)) rfl) (Zd (Zj (pv 1))) Zr)
   (Zb (#[0,3,Zs kR hr2 (Za (pv 0) (Za (pv 2) Zc))])
   (Zb (#[0,4,Zs kA hr (Za (pv 0) (Za (Zh (pv 1) rfl) (Za (pv 2) (Za (pv 3) Zc))))])
   (Zb (Yh (Zds (Z6y hu (pv 2) (Zh (pv 1) rfl)) rfl)
    (Zb (Vr hu (pv 4) (pv 2) (Ym Ze1 (pv 3) Zn) rfl) (Zd (#[0,5,Vz Sr rfl B.n_dict Z4r (Za (Zh (pv 1) rfl) Zc)])))
    (Zb (Vr hu (pv 4) (pv 2) Zn rfl) (Zd (#[0,5,Zs kA hr (Za (pv 0) (Za (Zh (pv 1) rfl) (Za (pv 2) (Za (pv 3) Zc))))]))))
   (Zb (Vr hu (pv 5) (pv 2) Zn rfl)
   (Zd (Zj (Wz kb hr2 (Za (pv 4) (Za (pv 5) Zc))))))))),?_⟩
  generalize hR:Vawctb.room sh (x % sh.sets)=R at hroom
  obtain⟨dx,fs,ds,dp,e1,e2,e3,⟨ks,e4,e4'⟩,⟨kp,e5,e5'⟩⟩:=id hB
  have gs:=e4'.get x
  have gm:=e5'.get x
  refine⟨_,rfl,_,rfl,r,CB,dx,fs,_,rfl,e1,T.cl,T.sure,e2,ds,_,rfl,DGet.k (k:=Sum.inl (x:Int)) e4,_,rfl,?_⟩
  refine ite2 (λq=>?_) λq=>?_
  ·
   have hs:(ageIn b.sure x).isSome=true:=by
    rw[gs]at q
    cases z:ageIn b.sure x with
    |none =>
     rw[z]at q
     cases q
    |some c=>rfl
   have eb:touchBounds sh b x=b:=by
    unfold touchBounds
    rw[if_neg (by rw[hl];exact Bool.false_ne_true),if_neg (by rw[ho];exact Bool.false_ne_true),if_pos hs]
   exact⟨_,rfl,k H r (Same.refl H) (by rw[eb];exact hB)⟩
  have hs:¬(ageIn b.sure x).isSome=true:=λz=>q (by
   rw[gs]
   cases y:ageIn b.sure x with
   |none =>
    rw[y]at z
    cases z
   |some c=>rfl)
  refine⟨_,rfl,_,rfl,p,sh,x,rfl,hC,h0,λH1 s1=>?_⟩
  rw[hR]
  have e1':=s1 _ _ e1
  refine⟨_,rfl,_,rfl,r,CB,dx,fs,_,rfl,e1',T.cl,T.sure,e2,_,rfl,_,rfl,p,ds,sh,ageIn b.sure,x,_,rfl,hC.same s1,h0,⟨ks,s1 _ _ e4,e4'⟩,gb.sure.lt32,λH2 t2 s2 n2 b2=>?_⟩
  have s02:=s1.trans s2
  have fr2:H t2=none:=s1.free n2
  have aged_eq:∀(l:Ages),GoodA sh l->∀y,(ageIn l y).bind (Xq sh x (λa=>decide ((a:Int)<=((R:Nat):Int))) y)=ageIn (older sh x (λ_=>true) l) y:=λl g y=>by
   rw[Ox g.srt]
   refine Qc (λw a hw e=>?_) y
   have hwl:=(g.lt w a hw).1
   have er:Rm sh w=R:=by show Vawctb.room sh (w % sh.sets)=R;rw[e,hR]
   exact decide_eq_true (by omega)
  refine⟨_,rfl,_,rfl,r,CB,dx,fs,_,rfl,s02 _ _ e1,T.cl,T.possible,e3,dp,_,rfl,DGet.k (k:=Sum.inl (x:Int)) (s02 _ _ e5),_,rfl,?_⟩
  refine ite2 (λqm=>?_) λqm=>?_
  ·
   obtain⟨cm,hcm⟩:∃c,ageIn b.maybe x=some c:=by
    rw[gm]at qm
    cases z:ageIn b.maybe x with
    |none =>
     rw[z]at qm
     cases qm
    |some c=>exact⟨c,rfl⟩
   have eb:touchBounds sh b x=⟨Vawctb.placed sh x (Vawctb.room sh (x % sh.sets)-1) (older sh x (λ_=>true) b.sure),Vawctb.placed sh x 0 b.maybe⟩:=by
    unfold touchBounds
    rw[if_neg (by rw[hl];exact Bool.false_ne_true),if_neg (by rw[ho];exact Bool.false_ne_true),if_neg hs,hcm]
   obtain⟨k4,f4,l4,d4⟩:=Su (H':=H2) b2 (Tw gb.sure.lt32) x (R-1)
   have er1:((R:Nat):Int)-1=((R-1:Nat):Int):=by omega
   refine⟨_,rfl,_,_,rfl,rfl,_,rfl,_,rfl,t2,_,rfl,DPut.k (k:=Sum.inl (x:Int)) f4 l4,?_⟩
   have ev:(λi j=>V.int (i-j)) ((R:Nat):Int) 1=V.int ((R-1:Nat):Int):=by
    show V.int (((R:Nat):Int)-1)=_
    rw[er1]
   rw[ev]
   obtain⟨s3,_⟩:=chg (o:=.dK (putK k4 (Sum.inl (x:Int)) (V.int ((R-1:Nat):Int)))) s02 fr2
   generalize upd H2 t2 _=H3 at s3 d4 ⊢
   refine⟨_,rfl,r,CB,dx,fs,_,rfl,s3 _ _ e1,T.cl,T.possible,e3,dp,kp,rfl,.inl (s3 _ _ e5),λt3 n3=>?_⟩
   have n23:t2≠t3:=λz=>by
    obtain⟨kv,hkv,_⟩:=d4
    rw[z,n3]at hkv
    cases hkv
   obtain⟨s4,f5⟩:=newE n3 (.dK kp)
   generalize upd H3 t3 _=H4 at s4 f5 ⊢
   obtain⟨k5,f5,l5,d5⟩:=Su (H':=H4) ⟨kp,f5,e5'⟩ gb.maybe.lt32 x 0
   refine⟨_,rfl,_,rfl,t3,_,rfl,DPut.k (k:=Sum.inl (x:Int)) f5 l5,?_⟩
   obtain⟨s5,_⟩:=chg (o:=.dK (putK k5 (Sum.inl (x:Int)) (V.int 0))) (s3.trans s4) (s3.free n3)
   have b5:=(d4.same s4).but (o:=.dK (putK k5 (Sum.inl (x:Int)) (V.int 0))) n23
   change DictAt (upd H4 t3 (.dK (putK k5 (Sum.inl (x:Int)) (V.int 0)))) t3 _ at d5
   generalize upd H4 t3 _=H5 at s5 b5 d5 ⊢
   refine⟨_,rfl,_,rfl,λu du nu nd ne=>⟨u,du,_,rfl,rfl,Ze,λH6 f6 k6=>⟨rfl,?_⟩⟩⟩
   refine(λ(hh:Same H5 H6/\BoundsAt CB H6 u (touchBounds sh b x))=>k H6 u (s5.trans hh.1) hh.2) (Vd nu nd f6 k6 (b5.congr λy=>?_) (d5.congr λy=>?_))
   ·rw[eb,Wc (by rw[hR];exact hroom),hR,aged_eq _ gb.sure]
   ·rw[eb,Wc (by rw[hR];exact hroom)]
  ·
   have hcm:ageIn b.maybe x=none:=by
    cases z:ageIn b.maybe x with
    |none=>rfl
    |some c =>
     rw[gm,z]at qm
     exact absurd rfl qm
   have eb:touchBounds sh b x=⟨Vawctb.placed sh x 0 (older sh x (λ_=>true) b.sure),Vawctb.placed sh x 0 (older sh x (λ_=>true) b.maybe)⟩:=by
    unfold touchBounds
    rw[if_neg (by rw[hl];exact Bool.false_ne_true),if_neg (by rw[ho];exact Bool.false_ne_true),if_neg hs,hcm]
   obtain⟨k4,f4,l4,d4⟩:=Su (H':=H2) b2 (Tw gb.sure.lt32) x 0
   refine⟨_,rfl,_,rfl,t2,_,rfl,DPut.k (k:=Sum.inl (x:Int)) f4 l4,?_⟩
   obtain⟨s3,_⟩:=chg (o:=.dK (putK k4 (Sum.inl (x:Int)) (V.int 0))) s02 fr2
   change DictAt (upd H2 t2 (.dK (putK k4 (Sum.inl (x:Int)) (V.int 0)))) t2 _ at d4
   generalize upd H2 t2 _=H3 at s3 d4 ⊢
   refine⟨_,rfl,_,rfl,r,CB,dx,fs,_,rfl,s3 _ _ e1,T.cl,T.possible,e3,_,rfl,_,rfl,p,dp,sh,ageIn b.maybe,x,_,rfl,hC.same s3,h0,⟨kp,s3 _ _ e5,e5'⟩,gb.maybe.lt32,λH4 t3 s4 n3 b3=>?_⟩
   have n23:t2≠t3:=λz=>by
    obtain⟨kv,hkv,_⟩:=d4
    rw[z,n3]at hkv
    cases hkv
   obtain⟨k5,f5,l5,d5⟩:=Su (H':=H4) b3 (Tw gb.maybe.lt32) x 0
   refine⟨_,rfl,_,rfl,t3,_,rfl,DPut.k (k:=Sum.inl (x:Int)) f5 l5,?_⟩
   obtain⟨s5,_⟩:=chg (o:=.dK (putK k5 (Sum.inl (x:Int)) (V.int 0))) (s3.trans s4) (s3.free n3)
   have b5:=(d4.same s4).but (o:=.dK (putK k5 (Sum.inl (x:Int)) (V.int 0))) n23
   change DictAt (upd H4 t3 (.dK (putK k5 (Sum.inl (x:Int)) (V.int 0)))) t3 _ at d5
   generalize upd H4 t3 _=H5 at s5 b5 d5 ⊢
   refine⟨_,rfl,_,rfl,λu du nu nd ne=>⟨u,du,_,rfl,rfl,Ze,λH6 f6 k6=>⟨rfl,?_⟩⟩⟩
   refine(λ(hh:Same H5 H6/\BoundsAt CB H6 u (touchBounds sh b x))=>k H6 u (s5.trans hh.1) hh.2) (Vd nu nd f6 k6 (b5.congr λy=>?_) (d5.congr λy=>?_))
   ·rw[eb,Wc (by rw[hR];exact hroom),aged_eq _ gb.sure]
   ·rw[eb,Wc (by rw[hR];exact hroom),aged_eq _ gb.maybe]
end
noncomputable section
variable {P:Program}{w:World}{K:W.Frag}{mg:Str->Option Value}{base:Heap}{C CB f:Addr}{fd:FuncData}
noncomputable def Zbn (C CB:Addr):Sp:=λvs H Q _=>∃(p r:Addr) (sh:Vawctb.Shape) (b:Bounds) (x:Nat),vs=[.ref p,.ref r,.int x]/\CacheAt C H p sh/\ShOk sh/\BoundsAt CB H r b/\GoodB sh b/\x<32/\
 ∀(H':Hp) (t:Addr),Same H H'->BoundsAt CB H' t (touchBounds sh b x)->Q (.ref t) H'
theorem Oy:FnScope ["cache","bounds","line"] ["cache","bounds","line"] (Zf Wl):=#[5]
theorem Oz (F:Fun K "touched_bounds" "touched_bounds" Wl f fd)(TC:TCache K C)(kR:#[40])(k0:#[70])(k1:#[71]) :
  FnOk P w K mg base CX0 5 f fd ["cache","bounds","line"] (Zbn C CB):=by
 exists 0,Oy
 ·obtain⟨p,r,sh,b,x,rfl,hC,h0,hB,gb,hx,k⟩:=h
  have hr2:Room 2 _:=hr.mono (by decide)
  refine⟨_,Zb (Yh (Jm (Zo Xh (pv 2) (Zh (pv 0) rfl) rfl) (Pa (Zo Ro (Zs kR hr2 (Za (pv 0) (Za (pv 2) Zc))) Zn (Xs _)))).pt (Zd (Zj (pv 1))) Zr)
   (Zb (Yh (Zo Ro (Zh (pv 0) rfl) Zn (Xs _)) (Zd (Zj (Zs k0 hr (Za (pv 0) (Za (pv 1) (Za (pv 2) Zc)))))) Zr)
   (Zd (Zj (Zs k1 hr (Za (pv 0) (Za (pv 1) (Za (pv 2) Zc))))))),?_⟩
  obtain⟨dx,fs,h1,h2⟩:=id hC
  obtain⟨la,hla,hlk⟩:=h2.locked
  refine⟨_,rfl,_,rfl,p,C,dx,fs,_,rfl,h1,TC.cl,TC.locked,hla,la,_,rfl,.inl (SqL.of hlk),rfl,Xb _,_,rfl,?_⟩
  show if inV (.int (x:Int)) (Zl sh.locked)=true then _ else _
  rw[Xi]
  refine ite2 (λe=>?_) λe=>?_
  ·have e0:isLocked sh x=true:=e
   refine iteT ⟨_,rfl,k H r (Same.refl H) ?_⟩
   unfold touchBounds
   rw[if_pos e0]
   exact hB
  have e0:isLocked sh x=false:=Bool.eq_false_iff.mpr e
  refine⟨_,rfl,_,rfl,p,sh,x,rfl,hC,h0,λH1 s1=>⟨rfl,_,rfl,?_⟩⟩
  have ez:decide (V.int (Vawctb.room sh (x % sh.sets):Nat)=V.int 0)=decide (Vawctb.room sh (x % sh.sets)=0):=Xm _ 0
  show if decide (V.int (Vawctb.room sh (x % sh.sets):Nat)=V.int 0)=true then _ else _
  rw[ez]
  refine ite2 (λe1=>?_) λe1=>?_
  ·exact⟨_,rfl,k H1 r s1 (by rw[Za7 gb hx (of_decide_eq_true e1)];exact hB.same s1)⟩
  have hroom:0<Vawctb.room sh (x % sh.sets):=Nat.pos_of_ne_zero λq=>e1 (decide_eq_true q)
  obtain⟨dx',fs',g1,g2⟩:=id (hC.same s1)
  refine⟨_,rfl,p,C,dx',fs',_,rfl,g1,TC.cl,TC.rule,g2.rule,rfl,_,rfl,?_⟩
  have er:decide (V.int (Vawctb.bit sh.oldest:Nat)=V.int 0)=!sh.oldest:=by cases sh.oldest <;> rfl
  show if decide (V.int (Vawctb.bit sh.oldest:Nat)=V.int 0)=true then _ else _
  rw[er]
  refine ite2 (λe2=>?_) λe2=>?_
  ·have ho:sh.oldest=false:=by
    cases q:sh.oldest with
    |false=>rfl
    |true =>
     rw[q]at e2
     cases e2
   exact⟨_,rfl,_,rfl,_,rfl,p,r,sh,b,x,rfl,hC.same s1,h0,hB.same s1,gb,hx,e0,ho,hroom,λH2 t s2 b2=>k H2 t (s1.trans s2) b2⟩
  ·have ho:sh.oldest=true:=by
    cases q:sh.oldest with
    |true=>rfl
    |false =>
     rw[q]at e2
     exact absurd rfl e2
   exact⟨_,rfl,_,rfl,_,rfl,p,r,sh,b,x,rfl,hC.same s1,h0,hB.same s1,gb,hx,e0,ho,hroom,λH2 t s2 b2=>k H2 t (s1.trans s2) b2⟩
theorem Nv (l:List Bounds)(b:Bounds):joinAll (l++[b])=some (Zhm (joinAll l) b):=by
 cases l with
 |nil=>rfl
 |cons a r =>
  show some ((r++[b]).foldl joinBounds a)=some (joinBounds (r.foldl joinBounds a) b)
  rw[List.foldl_append]
  rfl
noncomputable def Z0o (sh:Vawctb.Shape)(ls:List Nat)(b:Bounds):Bounds:=(joinAll (ls.map (touchBounds sh b))).getD b
noncomputable def Zbo (K:W.Frag)(C CB:Addr):Sp:=λvs H Q _=>∃(p r l:Addr) (sh:Vawctb.Shape) (b:Bounds) (ls:List Nat),vs=[.ref p,.ref r,.ref l]/\CacheAt C H p sh/\ShOk sh/\BoundsAt CB H r b/\Ok sh b/\SqL K H l (Zl ls)/\(∀x∈ls,x<32)/\
 ∀(H':Hp) (t:Addr),Same H H'->BoundsAt CB H' t (Z0o sh ls b)->Q (.ref t) H'
theorem Mr:FnScope ["cache","bounds","lines","behind","line"] ["cache","bounds","lines"] (Zf Vc):=#[5]
theorem Ms (F:Fun K "bounds_behind" "bounds_behind" Vc f fd)(kJ:#[55])(kT:#[72]) :
  FnOk P w K mg base CX0 6 f fd ["cache","bounds","lines"] (Zbo K C CB):=by
 exists 0,Mr
 ·obtain⟨p,r,l,sh,b,ls,rfl,hC,h0,hB,ok,hl,hx,k⟩:=h
  refine⟨_,Zb (#[0,3,Yb])
   (Zb (Yy PassesOwn.never rfl (Yc (pv 2)) (#[1,4])
    (Zd (#[0,3,Zs kJ #[2] (Za (pv 3) (Za (Zs kT hr (Za (pv 0) (Za (pv 1) (Za (pv 4) Zc)))) Zc))])))
   (Zd (Zj (Wg (Zo Xp (pv 3) Yb rfl) (pv 1) (pv 3))))),?_⟩
  have hokT:∀i,∀c∈(ls.take i).map (touchBounds sh b),Ok sh c:=λi c hc=>by
   obtain⟨x,hx',rfl⟩:=mem_map.mp hc
   exact Ji ok (hx x (List.mem_of_mem_take hx'))
  refine⟨_,rfl,l,rfl,⟨_,hl⟩,Xk (K:=K) (a:=l) (xs:=Zl ls) (λi σ H'=>∃(v:V) (v4:Option V),σ=[some (.ref p),some (.ref r),some (.ref l),some v,v4]/\Same H H'/\OptAt CB H' v (joinAll ((ls.take i).map (touchBounds sh b))))
   ⟨.non,none,rfl,Same.refl H,rfl⟩ (λi σ H' _ ⟨_,_,_,s1,_⟩=>s1.seq hl) ?_ ?_⟩
  ·rintro i y σ H' hi ⟨v,v4,rfl,s1,o1⟩
   obtain⟨x,hxi,rfl⟩:=Yr hi
   have hx32:=hx x (mem_of_getElem? hxi)
   refine⟨_,rfl,_,rfl,_,rfl,_,rfl,p,r,sh,b,x,rfl,hC.same s1,h0,hB.same s1,ok.good,hx32,λH2 t2 s2 b2=>?_⟩
   refine⟨v,t2,sh,_,_,rfl,o1.same s2,b2,Zbb (hokT i),Oo ok.good hx32,λH3 t3 s3 b3=>?_⟩
   refine⟨_,_,rfl,(s1.trans s2).trans s3,?_⟩
   rw[Zw hxi,map_append,List.map_cons,List.map_nil,Nv]
   exact⟨t3,rfl,b3⟩
  ·rintro σ H' ⟨v,v4,rfl,s1,o1⟩
   rw[Zi,take_length]at o1
   refine⟨_,rfl,rfl,_,rfl,?_⟩
   have e:Z0o sh ls b=(joinAll (ls.map (touchBounds sh b))).getD b:=rfl
   cases q:joinAll (ls.map (touchBounds sh b)) with
   |none =>
    rw[q]at o1 e
    have o1:v=.non:=o1
    subst o1
    exact⟨_,rfl,k H' r s1 (by rw[e];exact hB.same s1)⟩
   |some c =>
    rw[q]at o1 e
    obtain⟨t,rfl,bt⟩:=o1
    exact⟨_,rfl,k H' t s1 (by rw[e];exact bt)⟩
end
noncomputable def LinesAt (H:Hp)(ll:Addr)(ns:List (List Nat)):Prop:=∃as:List Addr,H ll=some (.lst (as.map V.ref))/\as.length=ns.length/\∀(i:Nat) (a:Addr) (l:List Nat),as[i]?=some a->ns[i]?=some l->H a=some (.lst (Zl l))
noncomputable def EdgesAt (H:Hp)(el:Addr)(es:List (Nat×Nat)):Prop:=∃ts:List Addr,H el=some (.lst (ts.map V.ref))/\ts.length=es.length/\∀(i:Nat) (t:Addr) (e:Nat×Nat),ts[i]?=some t->es[i]?=some e->H t=some (.tup [.int (e.1:Int),.int (e.2:Int)])
theorem LinesAt.same {H H':Hp}{ll:Addr}{ns:List (List Nat)}(h:LinesAt H ll ns)(s:Same H H'):LinesAt H' ll ns:=by
 obtain⟨as,h1,h2,h3⟩:=h
 exact⟨as,s _ _ h1,h2,λi a l e1 e2=>s _ _ (h3 i a l e1 e2)⟩
theorem EdgesAt.same {H H':Hp}{ll:Addr}{ns:List (Nat×Nat)}(h:EdgesAt H ll ns)(s:Same H H'):EdgesAt H' ll ns:=by
 obtain⟨as,h1,h2,h3⟩:=h
 exact⟨as,s _ _ h1,h2,λi a l e1 e2=>s _ _ (h3 i a l e1 e2)⟩
noncomputable def GraphAt (CG:Addr)(H:Hp)(p:Addr)(g:Graph):Prop:=∃dx fs ll el,H p=some (.ins CG dx fs)/\fs.lookup ("lines":Str)=some (.ref ll)/\fs.lookup ("edges":Str)=some (.ref el)/\LinesAt H ll g.nodes/\EdgesAt H el g.edges
theorem GraphAt.same {CG:Addr}{H H':Hp}{p:Addr}{g:Graph}(h:GraphAt CG H p g)(s:Same H H'):GraphAt CG H' p g:=by
 obtain⟨dx,fs,ll,el,h1,h2,h3,h4,h5⟩:=h
 exact⟨dx,fs,ll,el,s _ _ h1,h2,h3,h4.same s,h5.same s⟩
structure TGraph (K:W.Frag)(C:Addr):Prop where
 cl:Cls K C
 lines:NoAttr K C "lines"
 edges:NoAttr K C "edges"
structure GrOk (g:Graph):Prop where
 pos:1<=g.nodes.length
 le:g.nodes.length<=12
 lines:∀l∈g.nodes,l.length<=3/\∀x∈l,x<32
 edges:∀e∈g.edges,e.1<g.nodes.length/\e.2<g.nodes.length
 few:g.edges.length<=24
theorem GrOk.good {g:Graph}(h:GrOk g):Mi g:=λv x hx=>by
 unfold Vawctb.linesAt at hx
 rw[getD_eq_getElem?_getD]at hx
 cases q:g.nodes[v]? with
 |none =>
  rw[q]at hx
  cases hx
 |some l =>
  rw[q]at hx
  exact(h.lines l (mem_of_getElem? q)).2 x hx
noncomputable def TabF (CB:Addr)(H:Hp)(l:Addr)(n:Nat)(F:Nat->Option Bounds):Prop:=∃vs:List V,H l=some (.lst vs)/\vs.length=n/\∀(i:Nat) (v:V),vs[i]?=some v->OptAt CB H v (F i)
theorem TabF.same {CB:Addr}{H H':Hp}{l:Addr}{n:Nat}{F:Nat->Option Bounds}(h:TabF CB H l n F)(s:Same H H'):TabF CB H' l n F:=by
 obtain⟨vs,h1,h2,h3⟩:=h
 exact⟨vs,s _ _ h1,h2,λi v e=>(h3 i v e).same s⟩
theorem TabF.congr {CB:Addr}{H:Hp}{l:Addr}{n:Nat}{F G:Nat->Option Bounds}(h:TabF CB H l n F)(e:∀i,i<n->F i=G i):TabF CB H l n G:=by
 obtain⟨vs,h1,h2,h3⟩:=h
 exact⟨vs,h1,h2,λi v q=>by rw[<-e i (by rw[<-h2];exact(gse.mp q).1)];exact h3 i v q⟩
theorem BoundsAt.list {CB:Addr}{H:Hp}{r l:Addr}{b:Bounds}{vs:List V}{o:HO}(h:BoundsAt CB H r b)(hl:H l=some (.lst vs)):BoundsAt CB (upd H l o) r b:=by
 obtain⟨dx,fs,ds,dp,h1,h2,h3,⟨k4,h4,h4'⟩,⟨k5,h5,h5'⟩⟩:=h
 exact⟨dx,fs,ds,dp,Yl h1 (Xl h1 hl (by intro q;cases q)),h2,h3,⟨k4,Yl h4 (Xl h4 hl (by intro q;cases q)),h4'⟩,⟨k5,Yl h5 (Xl h5 hl (by intro q;cases q)),h5'⟩⟩
theorem OptAt.list {CB:Addr}{H:Hp}{l:Addr}{v:V}{o:Option Bounds}{vs:List V}{u:HO}(h:OptAt CB H v o)(hl:H l=some (.lst vs)):OptAt CB (upd H l u) v o:=by
 cases o with
 |none=>exact h
 |some b =>
  obtain⟨r,h1,h2⟩:=h
  exact⟨r,h1,h2.list hl⟩
theorem TabF.other {CB:Addr}{H:Hp}{l m:Addr}{n:Nat}{F:Nat->Option Bounds}{vs:List V}{u:HO}(h:TabF CB H l n F)(hm:H m=some (.lst vs))(ne:l≠m):TabF CB (upd H m u) l n F:=by
 obtain⟨ws,h1,h2,h3⟩:=h
 exact⟨ws,Yl h1 ne,h2,λi v e=>(h3 i v e).list hm⟩
theorem TabF.put {CB:Addr}{H:Hp}{l:Addr}{n:Nat}{F:Nat->Option Bounds}(h:TabF CB H l n F){j:Nat}(hj:j<n){v:V}{o:Option Bounds}(hv:OptAt CB H v o) :
  ∃vs,H l=some (.lst vs)/\ixN vs.length (j:Int)=some j/\TabF CB (upd H l (.lst (vs.set j v))) l n (λi=>if i=j then o else F i):=by
 obtain⟨vs,h1,h2,h3⟩:=h
 refine⟨vs,h1,?_,vs.set j v,Ze,by rw[List.length_set];exact h2,λi w e=>?_⟩
 ·unfold ixN
  rw[if_pos (by omega),if_pos (by omega)]
  rfl
 ·show OptAt CB (upd H l (.lst (vs.set j v))) w (if i=j then o else F i)
  rw[List.getElem?_set]at e
  by_cases q:j=i
  ·rw[if_pos q]at e
   rw[if_pos q.symm]
   split at e
   ·cases e
    exact hv.list h1
   ·cases e
  ·rw[if_neg q]at e
   rw[if_neg (λz=>q z.symm)]
   exact(h3 i w e).list h1
theorem TabF.get {CB:Addr}{H:Hp}{l:Addr}{n:Nat}{F:Nat->Option Bounds}(h:TabF CB H l n F){j:Nat}(hj:j<n):∃vs v,H l=some (.lst vs)/\vs[j]?=some v/\OptAt CB H v (F j):=by
 obtain⟨vs,h1,h2,h3⟩:=h
 have hj':j<vs.length:=by omega
 exact⟨vs,vs[j],h1,getElem?_eq_getElem hj',h3 j _ (getElem?_eq_getElem hj')⟩
theorem Zg0 {CB:Addr}{H:Hp}{v:V}{o:Option Bounds}(h:OptAt CB H v o):(!decide (v=V.non))=o.isSome:=by
 cases o with
 |none =>
  have h:v=.non:=h
  subst h
  rfl
 |some b =>
  obtain⟨r,rfl,_⟩:=h
  rfl
noncomputable def Tx (sh:Vawctb.Shape)(g:Graph)(first:Bounds)(t:Vawctb.Table)(es:List (Nat×Nat))(v:Nat):Option Bounds :=
 joinAll ((if v=0 then [first] else [])++(es.filter λe=>e.2==v).filterMap λe=>(en t e.1).map (Vawctb.behind sh g e.1))
theorem Zd1 (sh:Vawctb.Shape)(g:Graph)(first:Bounds)(t:Vawctb.Table){v:Nat}(hv:v<g.nodes.length):Tx sh g first t g.edges v=en (Vawctb.round sh g first t) v:=by
 rw[Pi,if_pos hv]
 unfold Tx Vawctb.prevOf
 rw[List.filterMap_map]
 rfl
theorem Z0p (sh:Vawctb.Shape)(g:Graph)(first:Bounds)(t:Vawctb.Table)(es:List (Nat×Nat))(e:Nat×Nat)(v:Nat):Tx sh g first t (es++[e]) v =
  if v=e.2 then(match(en t e.1).map (Vawctb.behind sh g e.1) with
   |some b=>some (Zhm (Tx sh g first t es v) b)
   |none=>Tx sh g first t es v) else Tx sh g first t es v:=by
 unfold Tx
 rw[List.filter_append,List.filterMap_append]
 by_cases q:v=e.2
 ·have hf:[e].filter (λe=>e.2==v)=[e]:=by simp[q]
  rw[if_pos q,hf]
  cases h:(en t e.1).map (Vawctb.behind sh g e.1) with
  |none =>
   have hm:[e].filterMap (λe=>(en t e.1).map (Vawctb.behind sh g e.1))=[]:=by rw[List.filterMap_cons,h];rfl
   rw[hm,append_nil]
  |some b =>
   have hm:[e].filterMap (λe=>(en t e.1).map (Vawctb.behind sh g e.1))=[b]:=by rw[List.filterMap_cons,h];rfl
   rw[hm,<-append_assoc,Nv]
 ·have hf:[e].filter (λe=>e.2==v)=[]:=by
   rw[filter_cons,if_neg (by simp;exact λz=>q z.symm),List.filter_nil]
  rw[if_neg q,hf,List.filterMap_nil,append_nil]
noncomputable section
variable {P:Program}{w:World}{K:W.Frag}{mg:Str->Option Value}{base:Heap}{C CB CG f:Addr}{fd:FuncData}
noncomputable def Zg1 (C CB CG:Addr):Sp:=λvs H Q _=>∃(p q r tb:Addr) (sh:Vawctb.Shape) (g:Graph) (first:Bounds) (t:Vawctb.Table),vs=[.ref p,.ref q,.ref r,.ref tb]/\CacheAt C H p sh/\ShOk sh/\GraphAt CG H q g/\GrOk g/\BoundsAt CB H r first/\Ok sh first/\TabF CB H tb g.nodes.length (en t)/\OkT sh g t/\
 ∀(H':Hp) (u:Addr),Same H H'->TabF CB H' u g.nodes.length (en (Vawctb.round sh g first t))->Q (.ref u) H'
theorem Z7v:FnScope ["cache","graph","at_first","before","made","behind","node","lines","source","target"] ["cache","graph","at_first","before"] (Zf Qb):=#[5]
theorem Z4y {CB:Addr}{H:Hp}{l:Addr}{n:Nat}(h:H l=some (.lst (List.replicate n V.non))):TabF CB H l n (λ_=>none) :=
 ⟨_,h,length_replicate,λi v e=>by
  rw[getElem?_replicate]at e
  split at e
  ·exact(Option.some.inj e).symm
  ·cases e⟩
theorem Z7w {g:Graph}{i:Nat}{l:List Nat}(h:g.nodes[i]?=some l)(sh:Vawctb.Shape)(b:Bounds):Vawctb.behind sh g i b=Z0o sh l b:=by
 unfold Vawctb.behind Z0o Vawctb.linesAt
 rw[getD_eq_getElem?_getD,h]
 rfl
theorem Yw {as:List Addr}{i:Nat}{y:V}(h:(as.map V.ref)[i]?=some y):∃a,as[i]?=some a/\y=.ref a:=by
 rw[getElem?_map]at h
 cases e:as[i]? with
 |none =>
  rw[e]at h
  cases h
 |some a =>
  rw[e]at h
  exact⟨a,rfl,(Option.some.inj h).symm⟩
theorem Z7x (F:Fun K "one_round" "one_round" Qb f fd)(B:Blt mg)(TG:TGraph K CG)(kB:#[73])(kJ:#[55]) :
  FnOk P w K mg base CX0 7 f fd ["cache","graph","at_first","before"] (Zg1 C CB CG):=by
 exists 0,Z7v
 ·obtain⟨p,q,r,tb,sh,g,first,t,rfl,hC,h0,hG,gok,hF,okF,hT,okT,k⟩:=h
  refine⟨_,Zb (Ud (i:=4) (own:=[("lines",7)]) rfl SC.nd rfl rfl rfl (Yc (Zh (pv 1) rfl)) (Yd rfl) (λ_ _ _ _ _=>#[1,7]) (λ_ _ _ _ _=>Yv) (λ_ _ _ _ _=>Yb))
   (Zb (Ud (i:=5) (own:=[("lines",7)]) rfl SC.nd rfl rfl rfl (Yc (Zh (pv 1) rfl)) (Yd rfl) (λ_ _ _ _ _=>#[1,7]) (λ_ _ _ _ _=>Yv) (λ_ _ _ _ _=>Yb))
   (Zb (Yy PassesOwn.never rfl (Zeq rfl B.n_enumerate (Za (Zh (pv 1) rfl) Zc)) (Te rfl (Yf (#[1,6]) (Yf (#[1,7]) Ww)))
    (Zd (Yh (Zo Z9r (Yp Zy (pv 3) (pv 6) (λ_ _=>rfl)) Yb rfl)
     (Zd (Z2u (Zs kB hr (Za (pv 0) (Za (Yp Zy (pv 3) (pv 6) (λ_ _=>rfl)) (Za (pv 7) Zc)))) (Z2t (pv 5) (pv 6) Jg))) Zr)))
   (Zb (Z2u (pv 2) (Z2t (pv 4) Zn Jg))
   (Zb (Yy PassesOwn.never rfl (Yc (Zh (pv 1) rfl)) (Te rfl (Yf (#[1,8]) (Yf (#[1,9]) Ww)))
    (Zd (Yh (Zo Z9r (Yp Zy (pv 5) (pv 8) (λ_ _=>rfl)) Yb rfl)
     (Zd (Z2u (Zs kJ #[2] (Za (Yp Zy (pv 4) (pv 9) (λ_ _=>rfl)) (Za (Yp Zy (pv 5) (pv 8) (λ_ _=>rfl)) Zc))) (Z2t (pv 4) (pv 9) Jg))) Zr)))
   (Zd (Zj (pv 4))))))),?_⟩
  obtain⟨dx,fs,ll,el,e1,e2,e3,⟨as,e4,e5,e6⟩,⟨ts,e7,e8,e9⟩⟩:=id hG
  generalize hn:g.nodes.length=n at hT k
  have hn12:n<=12:=by have:=gok.le;omega
  have hn1:1<=n:=by have:=gok.pos;omega
  refine⟨_,rfl,q,CG,dx,fs,_,rfl,e1,TG.cl,TG.lines,e2,ll,rfl,⟨_,SqL.of e4⟩,λlm hlm=>?_⟩
  refine Ub (List.replicate n .non) (by rw[length_replicate,length_map];omega) hlm (SqL.of e4) (Zg (by rw[length_map];omega)) (λi x H' R hi s1 hR=>?_) λH1 s1 f1=>?_
  ·have hi':i<n:=by
    have:=(gse.mp hi).1
    rw[length_map]at this
    omega
   exact⟨rfl,hR _ _ (by rw[getElem?_replicate,if_pos hi']) (Same.refl _)⟩
  refine⟨_,rfl,q,CG,dx,fs,_,rfl,s1 _ _ e1,TG.cl,TG.lines,e2,ll,rfl,⟨_,SqL.of (s1 _ _ e4)⟩,λlb hlb=>?_⟩
  refine Ub (List.replicate n .non) (by rw[length_replicate,length_map];omega) hlb (SqL.of (s1 _ _ e4)) (Zg (by rw[length_map];omega)) (λi x H' R hi s2 hR=>?_) λH2 s2 f2=>?_
  ·have hi':i<n:=by
    have:=(gse.mp hi).1
    rw[length_map]at this
    omega
   exact⟨rfl,hR _ _ (by rw[getElem?_replicate,if_pos hi']) (Same.refl _)⟩
  have s02:=s1.trans s2
  have hlb0:H lb=none:=s1.free hlb
  have nml:lm≠lb:=Zm f1 hlb
  refine⟨_,rfl,q,CG,dx,fs,_,rfl,s02 _ _ e1,TG.cl,TG.lines,e2,ll,_,rfl,SqL.of (s02 _ _ e4),Zbh (K:=K) (a:=ll) (xs:=as.map V.ref) (λi σ H'=>∃(v6 v7:Option V),σ=[some (.ref p),some (.ref q),some (.ref r),some (.ref tb),some (.ref lm),some (.ref lb),v6,v7,none,none]/\Same H H'/\H' lm=some (.lst (List.replicate n V.non))/\TabF CB H' lb n (λv=>if v<i then(en t v).map (Vawctb.behind sh g v) else none))
   ⟨none,none,rfl,s02,s2 _ _ f1,(Z4y f2).congr λv _=>by rw[if_neg (Nat.not_lt_zero v)]⟩ (λi σ H' _ ⟨_,_,_,s3,_⟩=>SqL.of (s3 _ _ e4)) ?_ ?_⟩
  ·rintro i y T σ H' hi ⟨v6,v7,rfl,s3,f3,t3⟩ hT'
   obtain⟨a,ha,rfl⟩:=Yw hi
   obtain⟨s4,f4⟩:=newE hT' (.tup [.int (i:Nat),.ref a])
   generalize upd H' T _=H4 at s4 f4 ⊢
   have hil:i<n:=by
    have:=(gse.mp ha).1
    omega
   obtain⟨l,hl⟩:∃l,g.nodes[i]?=some l:=⟨_,getElem?_eq_getElem (by omega)⟩
   have s04:=s3.trans s4
   obtain⟨vs,v,g1,g2,g3⟩:=(hT.same s04).get hil
   refine⟨T,_,rfl,SqT.of f4,rfl,_,_,rfl,_,_,rfl,rfl,_,rfl,_,rfl,tb,vs,_,v,rfl,rfl,SqL.of g1,Ya g2,rfl,_,rfl,?_⟩
   show if(!decide (v=V.non))=true then _ else _
   rw[Zg0 g3]
   refine ite2 (λev=>?_) λev=>?_
   ·obtain⟨b,hb⟩:∃b,en t i=some b:=by
     cases z:en t i with
     |none =>
      rw[z]at ev
      cases ev
     |some b=>exact⟨b,rfl⟩
    rw[hb]at g3
    obtain⟨rb,rfl,bb⟩:=g3
    have hla:=s04 _ _ (e6 i a l ha hl)
    refine⟨_,rfl,_,rfl,_,rfl,tb,vs,_,V.ref rb,rfl,rfl,SqL.of g1,Ya g2,_,rfl,p,rb,a,sh,b,l,rfl,hC.same s04,h0,bb,okT.ok i b hb,SqL.of hla,(gok.lines l (mem_of_getElem? hl)).2,λH5 u s5 b5=>?_⟩
    obtain⟨ws,w1,w2,w3⟩:=((t3.same s4).same s5).put (v:=.ref u) (o:=some (Z0o sh l b)) hil ⟨u,rfl,b5⟩
    refine⟨_,rfl,_,rfl,lb,ws,_,i,rfl,rfl,w1,w2,?_⟩
    obtain⟨s6,_⟩:=chg (o:=.lst (ws.set i (.ref u))) (s04.trans s5) hlb0
    refine⟨_,_,rfl,s6,Yl (s5 _ _ (s4 _ _ f3)) nml,w3.congr λv hv=>?_⟩
    by_cases z:v=i
    ·subst z
     rw[if_pos rfl,if_pos (Nat.lt_succ_self v),hb,Option.map_some,Z7w hl]
    ·rw[if_neg z]
     by_cases z2:v<i
     ·rw[if_pos z2,if_pos (by omega)]
     ·rw[if_neg z2,if_neg (by omega)]
   ·have hb:en t i=none:=by
     cases z:en t i with
     |none=>rfl
     |some b =>
      rw[z]at ev
      exact absurd rfl ev
    refine⟨_,_,rfl,s04,s4 _ _ f3,(t3.same s4).congr λv hv=>?_⟩
    by_cases z:v=i
    ·subst z
     rw[if_neg (Nat.lt_irrefl v),if_pos (Nat.lt_succ_self v),hb]
     rfl
    ·by_cases z2:v<i
     ·rw[if_pos z2,if_pos (by omega)]
     ·rw[if_neg z2,if_neg (by omega)]
  ·rintro σ H3 ⟨v6,v7,rfl,s3,f3,t3⟩
   rw[length_map]at t3
   have t3':TabF CB H3 lb n (λv=>(en t v).map (Vawctb.behind sh g v)):=t3.congr λv hv=>by rw[if_pos (by omega)]
   obtain⟨ws,w1,w2,w3⟩:=(Z4y (CB:=CB) f3).put (j:=0) (v:=.ref r) (o:=some first) (by omega) ⟨r,rfl,hF.same s3⟩
   refine⟨_,rfl,_,rfl,lm,ws,_,0,rfl,rfl,w1,w2,?_⟩
   obtain⟨s4,_⟩:=chg (o:=.lst (ws.set 0 (.ref r))) s3 hlm
   have t4:=t3'.other (u:=.lst (ws.set 0 (.ref r))) w1 (λz=>nml z.symm)
   generalize upd H3 lm _=H4 at s4 t4 w3 ⊢
   refine⟨_,rfl,q,CG,dx,fs,_,rfl,s4 _ _ e1,TG.cl,TG.edges,e3,el,rfl,⟨_,SqL.of (s4 _ _ e7)⟩,Xk (K:=K) (a:=el) (xs:=ts.map V.ref) (λi σ H'=>∃(v8 v9:Option V),σ=[some (.ref p),some (.ref q),some (.ref r),some (.ref tb),some (.ref lm),some (.ref lb),v6,v7,v8,v9]/\Same H H'/\TabF CB H' lb n (λv=>(en t v).map (Vawctb.behind sh g v))/\TabF CB H' lm n (Tx sh g first t (g.edges.take i)))
    ⟨none,none,rfl,s4,t4,w3.congr λv hv=>?_⟩ (λi σ H' _ ⟨_,_,_,s5,_⟩=>SqL.of (s5 _ _ e7)) ?_ ?_⟩
   ·unfold Tx
    rw[List.take_zero,List.filter_nil,List.filterMap_nil,append_nil]
    by_cases z:v=0
    ·rw[if_pos z,if_pos z]
     rfl
    ·rw[if_neg z,if_neg z]
     rfl
   ·rintro i y σ H' hi ⟨v8,v9,rfl,s5,tb5,tm5⟩
    obtain⟨a,ha,rfl⟩:=Yw hi
    have hil:i<g.edges.length:=by
     have:=(gse.mp ha).1
     omega
    obtain⟨e,he⟩:∃e,g.edges[i]?=some e:=⟨_,getElem?_eq_getElem hil⟩
    have hte:=s5 _ _ (e9 i a e ha he)
    obtain⟨he1,he2⟩:=gok.edges e (mem_of_getElem? he)
    obtain⟨vs,v,g1,g2,g3⟩:=tb5.get (j:=e.1) (by omega)
    refine⟨a,_,rfl,SqT.of hte,rfl,_,_,rfl,_,_,rfl,rfl,_,rfl,_,rfl,lb,vs,_,v,rfl,rfl,SqL.of g1,Ya g2,rfl,_,rfl,?_⟩
    show if(!decide (v=V.non))=true then _ else _
    rw[Zg0 g3]
    refine ite2 (λev=>?_) λev=>?_
    ·obtain⟨b,hb⟩:∃b,(en t e.1).map (Vawctb.behind sh g e.1)=some b:=by
      cases z:(en t e.1).map (Vawctb.behind sh g e.1) with
      |none =>
       rw[z]at ev
       cases ev
      |some b=>exact⟨b,rfl⟩
     have okb:Ok sh b:=by
      cases z:en t e.1 with
      |none =>
       rw[z]at hb
       cases hb
      |some c =>
       rw[z]at hb
       have hb:Vawctb.behind sh g e.1 c=b:=Option.some.inj hb
       rw[<-hb]
       exact Z0e gok.good (okT.ok _ c z) _
     rw[hb]at g3
     obtain⟨rb,rfl,bb⟩:=g3
     obtain⟨ms,mv,m1,m2,m3⟩:=tm5.get (j:=e.2) (by omega)
     have okm:OkO sh (Tx sh g first t (g.edges.take i) e.2):=by
      refine Zbb λc hc=>?_
      rcases mem_append.mp hc with hc | hc
      ·exact Z0f okF hc
      ·obtain⟨e',he',z⟩:=List.mem_filterMap.mp hc
       cases z2:en t e'.1 with
       |none =>
        rw[z2]at z
        cases z
       |some c' =>
        rw[z2]at z
        cases z
        exact Z0e gok.good (okT.ok _ c' z2) _
     refine⟨_,rfl,_,rfl,lm,ms,_,mv,rfl,rfl,SqL.of m1,Ya m2,_,rfl,_,rfl,lb,vs,_,_,rfl,rfl,SqL.of g1,Ya g2,mv,rb,sh,_,b,rfl,m3,bb,okm,okb.good,λH6 u s6 b6=>?_⟩
     obtain⟨ws',x1,x2,x3⟩:=(tm5.same s6).put (j:=e.2) (v:=.ref u) (o:=some (Zhm (Tx sh g first t (g.edges.take i) e.2) b)) (by omega) ⟨u,rfl,b6⟩
     refine⟨_,rfl,_,rfl,lm,ws',_,e.2,rfl,rfl,x1,x2,?_⟩
     obtain⟨s7,_⟩:=chg (o:=.lst (ws'.set e.2 (.ref u))) (s5.trans s6) hlm
     refine⟨_,_,rfl,s7,(tb5.same s6).other x1 (λz=>nml z.symm),x3.congr λv hv=>?_⟩
     rw[Zw he,Z0p,hb]
     by_cases z:v=e.2
     ·rw[if_pos z,if_pos z,z]
     ·rw[if_neg z,if_neg z]
    ·have hb:(en t e.1).map (Vawctb.behind sh g e.1)=none:=by
      cases z:(en t e.1).map (Vawctb.behind sh g e.1) with
      |none=>rfl
      |some b =>
       rw[z]at ev
       exact absurd rfl ev
     refine⟨_,_,rfl,s5,tb5,tm5.congr λv hv=>?_⟩
     rw[Zw he,Z0p,hb]
     split <;> rfl
   ·rintro σ H5 ⟨v8,v9,rfl,s5,tb5,tm5⟩
    rw[length_map,e8,take_length]at tm5
    refine⟨_,rfl,k H5 lm s5 (tm5.congr λv hv=>?_)⟩
    exact Zd1 sh g first t (by omega)
end
theorem Zl6 {K:W.Frag}{a b:Addr}{xs zs:List V}{g:TG}{te:TE}{vs:List Nat}{σ:L2.St}{H1:Hp}{D:Addr}{Qd:Hp->Prop}(ys:List V)(hy:ys.length=xs.length)(hxz:zs.length=xs.length)(hD:H1 D=none)(ha:SqL K H1 a xs)(hb:SqL K H1 b zs)(hz:xs.length<sizeLine)
  (hs:∀(i:Nat) (x z:V) (T:Addr) (H:Hp) (R:VK),xs[i]?=some x->zs[i]?=some z->Same H1 H->H T=none->(∀(y:V) (H4:Hp),ys[i]?=some y->Same H H4->R y H4)->g (.ref T) (wipe σ vs) (upd H T (.tup [x,z])) λσ2 H2=>wipe σ2 vs=wipe σ vs/\te σ2 H2 R)
  (hd:∀H,Same H1 H->H D=some (.lst ys)->Qd H) :
  ∃W:Nat->Nat->Hp->Prop,(∃m,W 0 m (upd H1 D (.lst [])))/\∀i m H,W i m H->
   ((Itz K a b).stop i H/\Qd H)\/((Itz K a b).go i H/\∃Nx:Hp->Prop,(∀H',Nx H'->∃m',m'<m/\W (i+1) m' H')/\∀x H',(Itz K a b).yld i H x H'->g x (wipe σ vs) H' λσ2 H2=>wipe σ2 vs=wipe σ vs/\tYes σ2 H2 λb H3 =>
    if b=true then te σ2 H3 λy H4=>∃acc,H4 D=some (.lst acc)/\acc.length<sizeLine/\Nx (upd H4 D (.lst (acc++[y]))) else Nx H3):=by
 refine⟨λi m H=>m=xs.length-i/\i<=xs.length/\Same H1 H/\H D=some (.lst (ys.take i)),⟨xs.length,by simp,Nat.zero_le _,Zq hD,Ze⟩,?_⟩
 rintro i m H ⟨rfl,hi,s1,hD'⟩
 by_cases hlt:i<xs.length
 ·refine .inr ⟨⟨xs,zs,xs[i],zs[i]'(by omega),s1.seq ha,s1.seq hb,by simp[hlt],getElem?_eq_getElem _⟩,λH'=>Same H1 H'/\H' D=some (.lst (ys.take (i+1))),λH' p'=>⟨xs.length-(i+1),by omega,rfl,hlt,p'.1,p'.2⟩,λv H' y=>?_⟩
  obtain⟨T,x,z,rfl,hT,rfl,hx,hz'⟩:=y
  refine hs i x z T H _ (hx xs (s1.seq ha)) (hz' zs (s1.seq hb)) s1 hT λy H4 hy4 s4=>⟨_,s4 _ _ hD',?_,λb o eb=>?_,?_⟩
  ·rw[length_take]
   omega
  ·rw[Zk (Zm eb hD)]
   exact s4 _ _ (s1 _ _ eb)
  ·rw[Ze,Zw hy4]
 ·have e:i=xs.length:=by omega
  subst e
  rw[<-hy,take_length]at hD'
  exact .inl ⟨⟨xs,zs,s1.seq ha,s1.seq hb,.inl (Nat.le_refl _)⟩,hd H s1 hD'⟩
noncomputable section
variable {P:Program}{w:World}{K:W.Frag}{mg:Str->Option Value}{base:Heap}{C CB CG f:Addr}{fd:FuncData}
noncomputable def Ziq (CB:Addr):Sp:=λvs H Q _=>∃(v1 v2:V) (sh:Vawctb.Shape) (o1 o2:Option Bounds),vs=[v1,v2]/\OptAt CB H v1 o1/\OptAt CB H v2 o2/\OkO sh o1/\OkO sh o2/\Q (.bl (decide (o1=o2))) H
theorem Za8:FnScope ["one","other"] ["one","other"] (Zf Ow):=#[5]
theorem Zg2 {CB:Addr}{H:Hp}{v:V}{o:Option Bounds}(h:OptAt CB H v o):decide (v=V.non)=o.isNone:=by
 cases o with
 |none =>
  have h:v=.non:=h
  subst h
  rfl
 |some b =>
  obtain⟨r,rfl,_⟩:=h
  rfl
theorem Zg3 {ka kb:List (Key×V)}{l m:Ages}(ha:FD ka (ageIn l))(hb:FD kb (ageIn m))(sl:Srt l)(sm:Srt m):(ka.length==kb.length&&ka.all λp=>decide (valV kb p.1=some p.2))=decide (l=m):=by
 rw[Bool.eq_iff_iff,ha.eq_iff hb,decide_eq_true_eq]
 exact⟨λh=>Z9z sl sm h,λh y=>by rw[h]⟩
theorem Za9 (F:Fun K "are_same" "are_same" Ow f fd)(T:TBounds K CB):FnOk P w K mg base CX0 1 f fd ["one","other"] (Ziq CB):=by
 exists 0,Za8
 ·obtain⟨v1,v2,sh,o1,o2,rfl,h1,h2,k1,k2,k⟩:=h
  have hu:=Z4d hr
  refine⟨_,Zb (Yh (Jm (Zo Xp (pv 0) Yb rfl) (Pa (Zo Xp (pv 1) Yb rfl))).pt (Zd (Zj (Zay (Xx Xp (pv 0) Yb rfl) (Jn (Xx Xp (pv 1) Yb rfl))))) Zr)
   (Zd (Zj (Zay (Xx (Zij hu) (Zh (pv 0) rfl) (Zh (pv 1) rfl) (Xs _)) (Jn (Xx (Zij hu) (Zh (pv 0) rfl) (Zh (pv 1) rfl) (Xs _)))))),?_⟩
  have i1:=Zg2 h1
  have i2:=Zg2 h2
  refine⟨_,rfl,rfl,_,rfl,?_⟩
  refine Zjq o2.isNone (λh=>⟨_,rfl,rfl,_,rfl,by rw[i2];exact h⟩) ?_
  rw[i1]
  refine ite2 (λe=>?_) λe=>?_
  ·refine Ss o1.isNone o2.isNone (λR h=>⟨_,rfl,rfl,by rw[i1];exact h⟩) (λR h=>⟨_,rfl,rfl,by rw[i2];exact h⟩) ?_
   have ee:(o1.isNone&&o2.isNone)=decide (o1=o2):=by
    cases o1 with
    |none=>cases o2 <;> rfl
    |some a =>
     cases o2 with
     |none=>rfl
     |some b =>
      exfalso
      revert e
      simp
   rw[ee]
   exact k
  ·cases o1 with
   |none=>exact absurd rfl e
   |some a =>
    cases o2 with
    |none=>exact absurd rfl e
    |some b =>
     obtain⟨r1,rfl,dx1,fs1,ds1,dp1,a1,a2,a3,⟨ka,a4,a4'⟩,⟨kp,a5,a5'⟩⟩:=h1
     obtain⟨r2,rfl,dx2,fs2,ds2,dp2,b1,b2,b3,⟨kb,b4,b4'⟩,⟨kq,b5,b5'⟩⟩:=h2
     have ga:=(k1 a rfl).good
     have gb:=(k2 b rfl).good
     dsimp only[Zkf,tRet]
     refine Ss (decide (a.sure=b.sure)) (decide (a.maybe=b.maybe))
      (λR h=>⟨_,rfl,r1,CB,dx1,fs1,_,rfl,a1,T.cl,T.sure,a2,_,rfl,r2,CB,dx2,fs2,_,rfl,b1,T.cl,T.sure,b2,ds1,ds2,ka,kb,rfl,rfl,.inl a4,.inl b4,a4'.ints,b4'.ints,by rw[Zg3 a4' b4' ga.sure.srt gb.sure.srt];exact h⟩)
      (λR h=>⟨_,rfl,r1,CB,dx1,fs1,_,rfl,a1,T.cl,T.possible,a3,_,rfl,r2,CB,dx2,fs2,_,rfl,b1,T.cl,T.possible,b3,dp1,dp2,kp,kq,rfl,rfl,.inl a5,.inl b5,a5'.ints,b5'.ints,by rw[Zg3 a5' b5' ga.maybe.srt gb.maybe.srt];exact h⟩) ?_
     have ee:(decide (a.sure=b.sure)&&decide (a.maybe=b.maybe))=decide (some a=some b):=by
      rw[Bool.eq_iff_iff,Bool.and_eq_true]
      simp only[decide_eq_true_eq,Option.some.injEq]
      constructor
      ·rintro⟨q1,q2⟩
       cases a
       cases b
       exact congr (congrArg _ q1) q2
      ·intro q
       rw[q]
       exact⟨rfl,rfl⟩
     rw[ee]
     exact k
end
noncomputable section
variable {P:Program}{w:World}{K:W.Frag}{mg:Str->Option Value}{base:Heap}{C CB CG CR f:Addr}{fd:FuncData}
structure TRounds (K:W.Frag)(C:Addr):Prop where
 cl:Cls K C
 number:NoAttr K C "number"
 before:NoAttr K C "before"
noncomputable def Nw (us:List V):List (Str×V):=putF "before" (us.getD 1 .non) (putF "number" (us.getD 0 .non) [])
theorem Z1z:FnScope ["self","number","before"] ["self","number","before"] (Zf Uo):=#[5]
theorem Z2a (F:Fun K "__init__" "Rounds.__init__" Uo f fd)(T:TRounds K C):FnOk P w K mg base CX0 1 f fd ["self","number","before"] (Vo C 2 Nw):=by
 exists 0,Z1z
 ·obtain⟨p,dx,us,rfl,hl,hp,k⟩:=h
  match us,hl with
  |[a,b],_ =>
   refine⟨_,Zb (Yq (pv 0) (pv 1) rfl) (Zd (Yq (pv 0) (pv 2) rfl)),?_⟩
   refine⟨_,rfl,_,rfl,p,C,dx,[],rfl,hp,T.cl,T.number,(by show 0<1000;decide),?_⟩
   refine⟨_,rfl,_,rfl,p,C,dx,_,rfl,Ze,T.cl,T.before,(by show 1<1000;decide),?_⟩
   exact k _ Ze λb o e hb=>by rw[Zk hb,Zk hb];exact e
noncomputable def Zbp (CR CB:Addr)(H:Hp)(r:Addr)(n k:Nat)(t:Nat->Option Bounds):Prop:=∃dx fs u,H r=some (.ins CR dx fs)/\fs.lookup ("number":Str)=some (.int (k:Int))/\fs.lookup ("before":Str)=some (.ref u)/\TabF CB H u n t
noncomputable def Zbq (C CB CG CR:Addr):Sp:=λvs H Q _=>∃(p q st:Addr) (sh:Vawctb.Shape) (g:Graph) (c:Vawcta.Cache),vs=[.ref p,.ref q,.ref st]/\CacheAt C H p sh/\ShOk sh/\GraphAt CG H q g/\GrOk g/\StateAt H st c/\CaOk sh c/\
 ∀(H':Hp) (u:Addr),Same H H'->Zbp CR CB H' u g.nodes.length (boundsOf sh g c).2 (en (boundsOf sh g c).1)->Q (.ref u) H'
theorem Z4z:FnScope ["cache","graph","state","at_first","before","number","changed","made","lines","one","other"] ["cache","graph","state"] (Zf Tu):=#[5]
theorem Z5a (F:Fun K "all_rounds" "all_rounds" Tu f fd)(B:Blt mg)(TG:TGraph K CG)(kO:#[74])(kR:#[75])(kS:#[76])(kI:#[77]) :
  FnOk P w K mg base CX0 8 f fd ["cache","graph","state"] (Zbq C CB CG CR):=by
 exists 0,Z4z
 ·obtain⟨p,q,st,sh,g,c,rfl,hC,h0,hG,gok,hs,hc,k⟩:=h
  have hr1:Room 1 _:=hr.mono (by decide)
  refine⟨_,Zb (#[0,3,Zs kO #[2] (Za (pv 2) Zc)])
   (Zb (Ud (i:=4) (own:=[("lines",8)]) rfl SC.nd rfl rfl rfl (Yc (Zh (pv 1) rfl)) (Yd rfl) (λ_ _ _ _ _=>#[1,8]) (λ_ _ _ _ _=>Yv) (λ_ _ _ _ _=>Yb))
   (Zb (Z2u (pv 3) (Z2t (pv 4) Zn Jg))
   (Zb (#[0,5,Zn])
   (Zb (#[0,6,Zcb])
   (Zb (Je PassesOwn.never (Xf (pv 6))
    (Zb (#[0,7,Zs kR hr (Za (pv 0) (Za (pv 1) (Za (pv 3) (Za (pv 4) Zc))))])
    (Zb (#[0,5,Ym Xe (pv 5) Zn])
    (Zb (#[0,6,(Zi9 (Yi (Z2x rfl) rfl B.n_all Z3b (Za (Ti (g:=gTup K 2 (Zj1 (Z3t 9) (Zj1 (Z3t 10) gNil))) (own:=[("one",9),("other",10)]) rfl SC.nd (Zih rfl B.n_zip (Za (pv 4) (Za (pv 7) Zc))) (Yd rfl)
     (λ_ _ _ _ _=>Te (by rfl) (Yf (#[1,9]) (Yf (#[1,10]) Ww))) (λ_ _ _ _ _=>Yv) (λ_ _ _ _ _=>Zs kS hr1 (Za (pv 9) (Za (pv 10) Zc)))) Zc)))])
    (Zd (#[0,4,pv 7]))))))
   (Zd (Zj (Wz kI #[2] (Za (pv 5) (Za (pv 4) Zc)))))))))),?_⟩
  obtain⟨dx,fs,ll,el,e1,e2,e3,⟨as,e4,e5,e6⟩,_⟩:=id hG
  have okF:=Tc hc
  have hgd:=gok.good
  have hw4:=h0.ways.2
  have hn12:=gok.le
  have hn1:=gok.pos
  refine⟨_,rfl,st,sh,c,rfl,hs,hc,h0,λH1 r s1 b1=>?_⟩
  generalize hfirst:boundsOfState c=first at okF b1
  refine⟨_,rfl,q,CG,dx,fs,_,rfl,s1 _ _ e1,TG.cl,TG.lines,e2,ll,rfl,⟨_,SqL.of (s1 _ _ e4)⟩,λlb hlb=>?_⟩
  refine Ub (List.replicate g.nodes.length .non) (by rw[length_replicate,length_map];omega) hlb (SqL.of (s1 _ _ e4)) (Zg (by rw[length_map];omega)) (λi x H' R hi s2 hR=>?_) λH2 s2 f2=>?_
  ·have hi':i<g.nodes.length:=by
    have:=(gse.mp hi).1
    rw[length_map]at this
    omega
   exact⟨rfl,hR _ _ (by rw[getElem?_replicate,if_pos hi']) (Same.refl _)⟩
  obtain⟨ws,w1,w2,w3⟩:=(Z4y (CB:=CB) f2).put (j:=0) (v:=.ref r) (o:=some first) (by omega) ⟨r,rfl,b1.same s2⟩
  refine⟨_,rfl,_,rfl,lb,ws,_,0,rfl,rfl,w1,w2,?_⟩
  obtain⟨s3,_⟩:=chg (o:=.lst (ws.set 0 (.ref r))) (s1.trans s2) (s1.free hlb)
  have b3:=(b1.same s2).list (o:=.lst (ws.set 0 (.ref r))) w1
  have w3':=w3.congr (G:=en (iter sh g first 0)) λv hv=>by
   show(if v=0 then some first else none)=en (Vawctb.firstTable g first) v
   rw[Z4l]
   by_cases z:v=0
   ·rw[if_pos z,if_pos ⟨hv,z⟩]
   ·rw[if_neg z,if_neg λy=>z y.2]
  generalize upd H2 lb _=H3 at s3 b3 w3' ⊢
  refine⟨λm σ H'=>∃(n:Nat) (ch:Bool) (tb:Addr) (v6:Option V),σ=[some (.ref p),some (.ref q),some (.ref st),some (.ref r),some (.ref tb),some (.int (n:Int)),some (.bl ch),v6,none,none,none]/\Same H H'/\BoundsAt CB H' r first/\TabF CB H' tb g.nodes.length (en (iter sh g first n))/\
   ((ch=true/\m=4001-n/\∀j,j<n->iter sh g first (j+1)≠iter sh g first j)\/(ch=false/\m=0/\∃j,n=j+1/\(∀i,i<j->iter sh g first (i+1)≠iter sh g first i)/\iter sh g first (j+1)=iter sh g first j)),
   ⟨4001,0,true,lb,none,rfl,s3,b3,w3',.inl ⟨rfl,rfl,λj hj=>absurd hj (Nat.not_lt_zero j)⟩⟩,?_⟩
  rintro m σ H' ⟨n,ch,tb,v6,rfl,s4,b4,t4,alt⟩
  refine⟨_,rfl,_,rfl,?_⟩
  have okn:=Tn (sh:=sh) hgd okF n
  have okn1:=Tn (sh:=sh) hgd okF (n+1)
  rcases alt with⟨rfl,hm,hne⟩ | ⟨rfl,hm,j,hj,hne,hfix⟩
  ·have hfew:=Zbe hgd okF hw4 hn12 hne
   refine iteT ⟨λσ' H''=>∃(ch:Bool) (tb:Addr) (v6:Option V),σ'=[some (.ref p),some (.ref q),some (.ref st),some (.ref r),some (.ref tb),some (.int ((n+1:Nat):Int)),some (.bl ch),v6,none,none,none]/\Same H H''/\BoundsAt CB H'' r first/\TabF CB H'' tb g.nodes.length (en (iter sh g first (n+1)))/\(ch=true↔iter sh g first (n+1)≠iter sh g first n),?_,?_⟩
   ·rintro σ' H'' ⟨ch,tb',v6',rfl,s5,b5,t5,hch⟩
    cases ch with
    |true =>
     refine⟨4001-(n+1),by omega,n+1,true,tb',v6',rfl,s5,b5,t5,.inl ⟨rfl,rfl,λj hj=>?_⟩⟩
     by_cases z:j=n
     ·subst z
      exact hch.mp rfl
     ·exact hne j (by omega)
    |false =>
     refine⟨0,by omega,n+1,false,tb',v6',rfl,s5,b5,t5,.inr ⟨rfl,rfl,n,rfl,hne,?_⟩⟩
     exact Classical.byContradiction λz=>Bool.false_ne_true (hch.mpr z)
   ·refine⟨_,rfl,_,rfl,_,rfl,_,rfl,p,q,r,tb,sh,g,first,iter sh g first n,rfl,hC.same s4,h0,hG.same s4,gok,b4,okF,t4,okn,λH5 u s5 t5=>?_⟩
    obtain⟨vs,a1,a2,a3⟩:=id (t4.same s5)
    obtain⟨us,c1,c2,c3⟩:=id t5
    refine⟨_,rfl,_,_,rfl,rfl,_,rfl,_,rfl,tb,u,vs,us,rfl,SqL.of a1,SqL.of c1,λD hD=>?_⟩
    generalize hbs:(List.range g.nodes.length).map (λv=>decide (en (iter sh g first n) v=en (iter sh g first (n+1)) v))=bs
    have hbl:bs.length=g.nodes.length:=by rw[<-hbs,length_map,length_range]
    refine Zl6 (bs.map V.bl) (by rw[length_map];omega) (by omega) hD (SqL.of a1) (SqL.of c1) (Zg (by omega)) (λi x z T H6 R hx hz s6 hT hR=>?_) λH6 s6 f6=>?_
    ·obtain⟨s7,f7⟩:=newE hT (.tup [x,z])
     generalize upd H6 T _=H7 at s7 f7 ⊢
     have hi:i<g.nodes.length:=by
      have:=(gse.mp hx).1
      omega
     refine⟨T,_,rfl,SqT.of f7,rfl,_,_,rfl,_,_,rfl,rfl,rfl,_,rfl,_,rfl,x,z,sh,_,_,rfl,((a3 i x hx).same s6).same s7,((c3 i z hz).same s6).same s7,okn.ok i,okn1.ok i,hR _ _ ?_ s7⟩
     rw[<-hbs,getElem?_map,getElem?_map,List.getElem?_range hi]
     rfl
    ·refine⟨D,bs,rfl,SqL.of f6,_,rfl,?_⟩
     refine⟨_,rfl,_,u,_,rfl,(s4.trans s5).trans s6,(b4.same s5).same s6,t5.same s6,?_⟩
     have hall:bs.all id=true↔iter sh g first (n+1)=iter sh g first n:=by
      rw[<-hbs,List.all_map,List.all_eq_true]
      constructor
      ·intro h
       refine Z7g okn1 okn λv hv=>?_
       exact(of_decide_eq_true (h v (List.mem_range.mpr hv))).symm
      ·intro h v hv
       show decide (en (iter sh g first n) v=en (iter sh g first (n+1)) v)=true
       rw[h]
       exact decide_eq_true rfl
     rw[Ne,<-hall]
     cases bs.all id <;> simp
  ·refine iteF ⟨_,rfl,_,rfl,λx dxc nx nd ne=>⟨x,dxc,_,rfl,rfl,Ze,λH5 f5 k5=>⟨rfl,?_⟩⟩⟩
   have s5:=Same.made nx nd k5
   have he:=Zct hgd okF hw4 hn12 hne hfix
   have e2:boundsOf sh g c=(iter sh g first n,n):=by
    unfold boundsOf
    rw[hfirst,he,<-hfix,<-hj]
   refine k H5 x (s4.trans s5) ?_
   rw[e2]
   exact⟨dxc,_,tb,f5,rfl,rfl,t4.same s5⟩
end
end Sl
namespace Sl
open PySem PySem.Spec PyProof.Rows L2
noncomputable def Vf (row:List Int):Option (List Nat):=match row with
 |[]=>none
 |k::l=>if !inRange k 0 CHOICES||decide ((l.length:Int)<k) then none else
  if(l.take k.toNat).all isLine&&unlike ((l.take k.toNat).map Int.toNat) then some ((l.take k.toNat).map Int.toNat) else none
theorem Xj (k:Int)(l:List Int):Vf (k::l)=if(!inRange k 0 CHOICES||decide ((l.length:Int)<k))=true then none else
  if((l.take k.toNat).all isLine&&unlike ((l.take k.toNat).map Int.toNat))=true then some ((l.take k.toNat).map Int.toNat) else none:=rfl
theorem Z2b (n:Nat)(k:Int)(l:List Int):readNodes (n+1) (k::l)=if(!inRange k 0 CHOICES||decide ((l.length:Int)<k))=true then none else
  if((l.take k.toNat).all isLine&&unlike ((l.take k.toNat).map Int.toNat))=true then(readNodes n (l.drop k.toNat)).map (λq=>((l.take k.toNat).map Int.toNat::q.1,q.2)) else none:=rfl
theorem Rj (n:Nat)(row:List Int):readNodes (n+1) row=(Vf row).bind λa=>(readNodes n (row.drop (1+a.length))).map λq=>(a::q.1,q.2):=by
 cases row with
 |nil=>rfl
 |cons k l =>
  rw[Z2b,Xj]
  by_cases h:(!inRange k 0 CHOICES||decide ((l.length:Int)<k))=true
  ·rw[if_pos h,if_pos h]
   rfl
  ·rw[if_neg h,if_neg h]
   by_cases h2:((l.take k.toNat).all isLine&&unlike ((l.take k.toNat).map Int.toNat))=true
   ·rw[if_pos h2,if_pos h2]
    have hl:((l.take k.toNat).map Int.toNat).length=k.toNat:=by
     simp only[Bool.or_eq_true,decide_eq_true_eq,not_or]at h
     rw[length_map,length_take]
     omega
    show _=Option.map (λq=>(((l.take k.toNat).map Int.toNat)::q.1,q.2)) (readNodes n ((k::l).drop (1+((l.take k.toNat).map Int.toNat).length)))
    rw[hl,Nat.add_comm 1 k.toNat,List.drop_succ_cons]
   ·rw[if_neg h2,if_neg h2]
    rfl
theorem Z3d:∀l:List Nat,unlike l=true↔l.Nodup
 |[]=>by simp[unlike]
 |a::l=>by
  unfold unlike
  rw[Bool.and_eq_true,nodup_cons,Z3d l]
  simp
theorem Xr (n:Int):isLine n=true↔0<=n/\n<=31:=by
 show(decide (0<=n)&&decide (n<=31))=true↔_
 rw[Bool.and_eq_true,decide_eq_true_eq,decide_eq_true_eq]
theorem Up {ns:List Int}(h:ns.all isLine=true):ns.map V.int=Zl (ns.map Int.toNat):=by
 unfold Zl
 rw[List.map_map]
 refine List.map_congr_left λn hn=>?_
 have:=(Xr n).mp (List.all_eq_true.mp h n hn)
 show V.int n=V.int ((n.toNat:Nat):Int)
 rw[Int.toNat_of_nonneg this.1]
theorem Ps {ns:List Int}(h:ns.all isLine=true):∀x∈ns.map Int.toNat,x<32:=λx hx=>by
 obtain⟨n,hn,rfl⟩:=mem_map.mp hx
 have:=(Xr n).mp (List.all_eq_true.mp h n hn)
 omega
theorem Z0q:∀{ns:List Int},ns.all isLine=true->((ns.map Int.toNat).Nodup↔ns.Nodup)
 |[],_=>by simp
 |n::ns,h=>by
  rw[List.all_cons,Bool.and_eq_true]at h
  rw[List.map_cons,nodup_cons,nodup_cons,Z0q h.2]
  have hn:=(Xr n).mp h.1
  refine and_congr (not_congr ⟨λq=>?_,λq=>mem_map.mpr ⟨n,q,rfl⟩⟩) Iff.rfl
  obtain⟨m,hm,e⟩:=mem_map.mp q
  have hm2:=(Xr m).mp (List.all_eq_true.mp h.2 m hm)
  have:m=n:=by omega
  exact this▸hm
abbrev Ty:Stmt:=Tj (top 32) 0
abbrev Na:Stmt:=top 33
abbrev Vu:Stmt:=top 34
abbrev Vg:Stmt:=top 35
abbrev Wd:Stmt:=top 36
abbrev Tz:Stmt:=top 37
abbrev Sa:Stmt:=top 38
noncomputable def Z0r (us:List V):List (Str×V):=putF "edges" (us.getD 1 .non) (putF "lines" (us.getD 0 .non) [])
noncomputable section
variable {P:Program}{w:World}{K:W.Frag}{mg:Str->Option Value}{base:Heap}{C CB CG f:Addr}{fd:FuncData}
theorem Z5b:FnScope ["self","lines","edges"] ["self","lines","edges"] (Zf Ty):=#[5]
theorem Z5c (F:Fun K "__init__" "Graph.__init__" Ty f fd)(T:TGraph K CG):FnOk P w K mg base CX0 1 f fd ["self","lines","edges"] (Vo CG 2 Z0r):=by
 exists 0,Z5b
 ·obtain⟨p,dx,us,rfl,hl,hp,k⟩:=h
  match us,hl with
  |[a,b],_ =>
   refine⟨_,Zb (Yq (pv 0) (pv 1) rfl) (Zd (Yq (pv 0) (pv 2) rfl)),?_⟩
   refine⟨_,rfl,_,rfl,p,CG,dx,[],rfl,hp,T.cl,T.lines,(by show 0<1000;decide),?_⟩
   refine⟨_,rfl,_,rfl,p,CG,dx,_,rfl,Ze,T.cl,T.edges,(by show 1<1000;decide),?_⟩
   exact k _ Ze λb o e hb=>by rw[Zk hb,Zk hb];exact e
noncomputable def Zl7 (CG:Addr):Sp:=λvs H Q _=>∃(q:Addr) (g:Graph) (v:Int),vs=[.ref q,.int v]/\GraphAt CG H q g/\Q (.bl (inRange v 0 ((g.nodes.length:Int)-1))) H
theorem Zaa:FnScope ["graph","number"] ["graph","number"] (Zf Na):=#[5]
theorem Zab (F:Fun K "has_node" "has_node" Na f fd)(B:Blt mg)(T:TGraph K CG):FnOk P w K mg base CX0 1 f fd ["graph","number"] (Zl7 CG):=by
 exists 0,Zaa
 ·obtain⟨q,g,v,rfl,⟨dx,fs,ll,el,e1,e2,e3,⟨as,e4,e5,e6⟩,_⟩,k⟩:=h
  refine⟨_,Zd (Zj (Z3u Ol Z9q Zn (pv 1) (#[6,Za (Zh (pv 0) rfl) Zc]))),?_⟩
  have e0:inRange v 0 ((g.nodes.length:Int)-1)=(decide (0<=v)&&decide (v<=(g.nodes.length:Int)-1)):=rfl
  rw[e0]at k
  refine⟨_,rfl,_,_,rfl,rfl,_,rfl,?_⟩
  refine ite2 (λe=>?_) λe=>?_
  ·refine⟨_,rfl,q,CG,dx,fs,_,rfl,e1,T.cl,T.lines,e2,ll,_,rfl,.inl (SqL.of e4),_,_,rfl,rfl,?_⟩
   have ee:decide (v<((as.map V.ref).length:Int))=(decide (0<=v)&&decide (v<=(g.nodes.length:Int)-1)):=by
    rw[e,Bool.true_and,length_map,e5,Bool.eq_iff_iff]
    simp only[decide_eq_true_eq]
    omega
   show Q (.bl (decide (v<((as.map V.ref).length:Int)))) H
   rw[ee]
   exact k
  ·rw[Bool.eq_false_iff.mpr e]at k
   exact k
noncomputable def Zbr (K:W.Frag):Sp:=λvs H Q _=>∃(r:Addr) (ns:List Int) (pl:Nat),vs=[.ref r,.int pl]/\SqL K H r (ns.map V.int)/\ns.length<=400/\
 (Vf (ns.drop pl)=none->∀H',Same H H'->Q .non H')/\∀a,Vf (ns.drop pl)=some a->∀(H':Hp) (t:Addr),Same H H'->H t=none->H' t=some (.lst (Zl a))->Q (.ref t) H'
theorem Mt:FnScope ["row","place","lines"] ["row","place"] (Zf Vg):=#[5]
theorem Mu (F:Fun K "lines_told_at" "lines_told_at" Vg f fd)(B:Blt mg)(L:Cst mg "MOST_LINES" 3)(kL:#[41]):FnOk P w K mg base CX0 2 f fd ["row","place"] (Zbr K):=by
 obtain⟨uL,mL,rL⟩:=L
 exists 0,Mt
 ·obtain⟨r,ns,pl,rfl,hs,hz,kN,kS⟩:=h
  refine⟨_,Zb (Yh (PW.pt (Jm (Zo Zlo (pv 1) (#[6,Za (pv 0) Zc]) (Xs _)) (Pa (Wh (Jf Ol Ol Zn (Yp Zy (pv 0) (pv 1) (λ_ _=>rfl)) (Zt rfl mL rL)))))) (Zd (Zj Yb)) Zr)
   (Zb (#[0,2,Sm Z3x (pv 0) (Tf (Ym Xe (pv 1) Zn)) (Tf (Ym Xe (Ym Xe (pv 1) Zn) (Yp Zy (pv 0) (pv 1) (λ_ _=>rfl))))])
   (Zb (Yh (PW.pt (Jm (Zo Z9q (#[6,Za (pv 2) Zc]) (Yp Zy (pv 0) (pv 1) (λ_ _=>rfl)) (Xs _))
     (Jm (Wh (Xf (Zs kL hr (Za (pv 2) Zc)))) (Pa (Zo Z9q (Yi Zfh rfl B.n_len Zfl (Za (Vz (Zfg rfl) rfl B.n_set Zl5 (Za (pv 2) Zc)) Zc)) (#[6,Za (pv 2) Zc]) (Xs _)))))) (Zd (Zj Yb)) Zr)
   (Zd (Zj (pv 2))))),?_⟩
  refine⟨_,rfl,_,rfl,r,_,rfl,.inl hs,_,_,rfl,rfl,_,rfl,?_⟩
  show if decide (((ns.map V.int).length:Int)<=(pl:Int))=true then _ else _
  rw[length_map]
  refine ite2 (λe=>?_) λe=>?_
  ·have:ns.length<=pl:=by have:=of_decide_eq_true e;omega
   refine iteT (kN ?_ H (Same.refl H))
   rw[List.drop_of_length_le this]
   rfl
  have hpl:pl<ns.length:=Nat.lt_of_not_le λq=>e (decide_eq_true (by omega))
  have hix:(ns.map V.int)[pl]?=some (V.int ns[pl]):=by rw[getElem?_map,getElem?_eq_getElem hpl];rfl
  have hdrop:ns.drop pl=ns[pl]::ns.drop (pl+1):=List.drop_eq_getElem_cons hpl
  rw[hdrop]at kN kS
  generalize ns[pl]=kk at hix hdrop kN kS
  refine Ve (p1:=λi j=>decide (i<=j)) (p2:=λi j=>decide (i<=j)) 0 kk 3 (λR h=>h) (λR h=>⟨_,rfl,_,rfl,r,_,_,_,rfl,rfl,hs,Ya hix,h⟩) (λR h=>h) ⟨_,rfl,?_⟩
  have er:(decide (0<=kk)&&decide (kk<=3))=inRange kk 0 CHOICES:=rfl
  show if(!(decide (0<=kk)&&decide (kk<=3)))=true then _ else _
  rw[er]
  refine ite2 (λe1=>?_) λe1=>?_
  ·exact kN (by rw[Xj,if_pos (by rw[e1];rfl)]) H (Same.refl H)
  have e1':inRange kk 0 CHOICES=true:=by
   cases q:inRange kk 0 CHOICES with
   |true=>rfl
   |false =>
    rw[q]at e1
    exact absurd rfl e1
  have hk03:0<=kk/\kk<=3:=by
   rw[<-er,Bool.and_eq_true,decide_eq_true_eq,decide_eq_true_eq]at e1'
   exact e1'
  obtain⟨m,hm⟩:∃m:Nat,kk=(m:Int):=⟨kk.toNat,by omega⟩
  generalize hrest:ns.drop (pl+1)=rest at kN kS hdrop
  have hcut:cutV (ns.map V.int) (some ((pl:Int)+1)) (some ((pl:Int)+1+kk))=(rest.take m).map V.int:=by
   rw[show(pl:Int)+1=((pl+1:Nat):Int) by omega,show((pl+1:Nat):Int)+kk=((pl+1+m:Nat):Int) by omega,Z7m,List.drop_take,<-hrest,show pl+1+m-(pl+1)=m by omega,List.map_take,List.map_drop]
  refine⟨_,rfl,_,rfl,_,_,rfl,rfl,_,rfl,_,rfl,_,_,rfl,rfl,_,rfl,_,rfl,r,_,_,_,rfl,rfl,hs,Ya hix,_,_,rfl,rfl,_,rfl,r,_,rfl,hs,λt1 ht1=>?_⟩
  show _
  rw[hcut]
  obtain⟨s1,f1⟩:=newE ht1 (.lst ((rest.take m).map V.int))
  generalize upd H t1 _=H1 at s1 f1 ⊢
  have hrl:rest.length<=400:=by rw[<-hrest,length_drop];omega
  have hal:(rest.take m).length<=400:=by rw[length_take];omega
  have htn:kk.toNat=m:=by omega
  refine⟨_,rfl,t1,_,rfl,.inl (SqL.of f1),_,rfl,_,rfl,r,_,_,_,rfl,rfl,s1.seq hs,Ya hix,_,_,rfl,rfl,_,rfl,?_⟩
  show if decide ((((rest.take m).map V.int).length:Int)<kk)=true then _ else _
  refine ite2 (λe2=>?_) λe2=>?_
  ·have h2:=of_decide_eq_true e2
   rw[length_map,length_take]at h2
   refine iteT (kN ?_ H1 s1)
   rw[Xj,if_pos (by rw[decide_eq_true (show(rest.length:Int)<kk by omega),Bool.or_true])]
  have h2:¬(rest.length:Int)<kk:=λq=>e2 (decide_eq_true (by rw[length_map,length_take];omega))
  have hT:Vf (kk::rest)=if((rest.take m).all isLine&&unlike ((rest.take m).map Int.toNat))=true then some ((rest.take m).map Int.toNat) else none:=by
   rw[Xj,if_neg (by rw[e1',decide_eq_false h2];exact Bool.false_ne_true),htn]
  rw[hT]at kN kS
  refine⟨_,rfl,t1,rest.take m,rfl,SqL.of f1,by omega,λH2 s2=>⟨_,rfl,?_⟩⟩
  refine ite2 (λe3=>?_) λe3=>?_
  ·have h3:(rest.take m).all isLine=false:=by
    cases q:(rest.take m).all isLine with
    |false=>rfl
    |true =>
     rw[q]at e3
     cases e3
   refine iteT (kN ?_ H2 (s1.trans s2))
   rw[h3,Bool.false_and,if_neg Bool.false_ne_true]
  have h3:(rest.take m).all isLine=true:=by
   cases q:(rest.take m).all isLine with
   |true=>rfl
   |false =>
    rw[q]at e3
    exact absurd rfl e3
  rw[h3,Bool.true_and]at kN kS
  have hun:unlike ((rest.take m).map Int.toNat)=true↔(rest.take m).Nodup:=by rw[Z3d,Z0q h3]
  have f2:=s2 _ _ f1
  refine⟨_,rfl,t1,rest.take m,rfl,SqL.of f2,by omega,λps S hps=>?_⟩
  obtain⟨s3,f3⟩:=newE hps (.set S (Za4 (rest.take m)))
  generalize upd H2 ps _=H3 at s3 f3 ⊢
  have hkl:Za4 (rest.take m)<=(rest.take m).length:=by
   have:=Vn (rest.take m) []
   rw[length_nil,Nat.zero_add]at this
   exact this
  refine⟨ps,S,_,rfl,f3,by omega,_,rfl,t1,_,rfl,.inl (SqL.of (s3 _ _ f2)),_,_,rfl,rfl,_,rfl,?_⟩
  show if decide (((Za4 (rest.take m):Nat):Int)<((((rest.take m).map V.int).length:Nat):Int))=true then _ else _
  rw[length_map]
  refine ite2 (λe4=>?_) λe4=>?_
  ·have h4:¬(rest.take m).Nodup:=(Zbg _).mp (by have:=of_decide_eq_true e4;omega)
   exact kN (by rw[if_neg λq=>h4 (hun.mp q)]) H3 ((s1.trans s2).trans s3)
  ·have h4:(rest.take m).Nodup:=Classical.byContradiction λq=>e4 (decide_eq_true (by have:=(Zbg _).mpr q;omega))
   refine⟨_,rfl,kS _ (by rw[if_pos (hun.mpr h4)]) H3 t1 ((s1.trans s2).trans s3) ht1 ?_⟩
   rw[<-Up h3]
   exact s3 _ _ f2
end
noncomputable def Nb (ns:List Int):Option (List (List Nat)×List Int):=match ns with
 |[]=>none
 |n::r=>if inRange n 1 NODES=true then readNodes n.toNat r else none
noncomputable def Z3e (ls:List (List Nat)):Nat:=(ls.map λl=>1+l.length).sum
theorem Z7y {row:List Int}{a:List Nat}(h:Vf row=some a):a.length<=3/\(∀x∈a,x<32)/\1+a.length<=row.length:=by
 cases row with
 |nil=>cases h
 |cons k l =>
  rw[Xj]at h
  split at h
  ·cases h
  ·rename_i h1
   split at h
   ·rename_i h2
    cases h
    rw[Bool.and_eq_true]at h2
    have hr:inRange k 0 CHOICES=(decide (0<=k)&&decide (k<=3)):=rfl
    rw[hr]at h1
    simp only[Bool.or_eq_true,Bool.not_eq_true',Bool.and_eq_false_iff,decide_eq_true_eq,decide_eq_false_iff_not,not_or,Classical.not_not]at h1
    refine⟨?_,Ps h2.1,?_⟩
    ·rw[length_map,length_take]
     omega
    ·rw[length_map,length_take,length_cons]
     omega
   ·cases h
theorem Vp:∀(n:Nat) (row:List Int) (ls:List (List Nat)) (rem:List Int),readNodes n row=some (ls,rem)->ls.length=n/\rem=row.drop (Z3e ls)/\∀l∈ls,l.length<=3/\∀x∈l,x<32
 |0,row,ls,rem,h=>by
  have h:some (([]:List (List Nat)),row)=some (ls,rem):=h
  cases h
  exact⟨rfl,rfl,λl hl=>nomatch hl⟩
 |n+1,row,ls,rem,h=>by
  rw[Rj]at h
  cases q:Vf row with
  |none =>
   rw[q]at h
   cases h
  |some a =>
   rw[q]at h
   have h:(readNodes n (row.drop (1+a.length))).map (λq=>(a::q.1,q.2))=some (ls,rem):=h
   cases q2:readNodes n (row.drop (1+a.length)) with
   |none =>
    rw[q2]at h
    cases h
   |some p =>
    rw[q2]at h
    cases h
    obtain⟨i1,i2,i3⟩:=Vp n _ p.1 p.2 q2
    obtain⟨t1,t2,_⟩:=Z7y q
    refine⟨by rw[length_cons,i1],?_,λl hl=>?_⟩
    ·show p.2=_
     rw[i2,List.drop_drop]
     unfold Z3e
     rw[List.map_cons,List.sum_cons]
    ·rcases List.mem_cons.mp hl with e | hl
     ·subst e
      exact⟨t1,t2⟩
     ·exact i3 l hl
noncomputable def LinesAt' (H:Hp)(ll:Addr)(ns:List (List Nat)):Prop:=∃as:List Addr,H ll=some (.lst (as.map V.ref))/\as.length=ns.length/\ll∉as/\∀(i:Nat) (a:Addr) (l:List Nat),as[i]?=some a->ns[i]?=some l->H a=some (.lst (Zl l))
theorem LinesAt'.to {H:Hp}{ll:Addr}{ns:List (List Nat)}(h:LinesAt' H ll ns):LinesAt H ll ns:=by
 obtain⟨as,h1,h2,_,h3⟩:=h
 exact⟨as,h1,h2,h3⟩
theorem LinesAt'.same {H H':Hp}{ll:Addr}{ns:List (List Nat)}(h:LinesAt' H ll ns)(s:Same H H'):LinesAt' H' ll ns:=by
 obtain⟨as,h1,h2,hn,h3⟩:=h
 exact⟨as,s _ _ h1,h2,hn,λi a l e1 e2=>s _ _ (h3 i a l e1 e2)⟩
noncomputable section
variable {P:Program}{w:World}{K:W.Frag}{mg:Str->Option Value}{base:Heap}{C CB CG f:Addr}{fd:FuncData}
noncomputable def Zg4 (K:W.Frag):Sp:=λvs H Q _=>∃(r:Addr) (ns:List Int),vs=[.ref r]/\SqL K H r (ns.map V.int)/\ns.length<=400/\
 (Nb ns=none->∀H',Same H H'->Q .non H')/\∀p,Nb ns=some p->∀(H':Hp) (t:Addr),Same H H'->H t=none->LinesAt' H' t p.1->Q (.ref t) H'
theorem Pt:FnScope ["row","told","place","node","lines"] ["row"] (Zf Wd):=#[5]
theorem Pu (F:Fun K "node_lines_told" "node_lines_told" Wd f fd)(B:Blt mg)(L:Cst mg "MOST_NODES" 12)(kT:#[78]):FnOk P w K mg base CX0 3 f fd ["row"] (Zg4 K):=by
 obtain⟨uL,mL,rL⟩:=L
 exists 0,Pt
 ·obtain⟨r,ns,rfl,hs,hz,kN,kS⟩:=h
  refine⟨_,Zb (Yh (PW.pt (Jm (Zo Ro (#[6,Za (pv 0) Zc]) Zn (Xs _)) (Pa (Wh (Jf Ol Ol Zn (Yp Zy (pv 0) Zn (λ_ _=>rfl)) (Zt rfl mL rL)))))) (Zd (Zj Yb)) Zr)
   (Zb (#[0,1,Zv Zc])
   (Zb (#[0,2,Zn])
   (Zb (Yy PassesOwn.never rfl (Jp rfl B.n_range (Za (Yp Zy (pv 0) Zn (λ_ _=>rfl)) Zc)) (#[1,3])
    (Zb (#[0,4,Zs kT hr (Za (pv 0) (Za (pv 2) Zc))])
    (Zb (Yh (Zo Xp (pv 4) Yb rfl) (Zd (Zj Yb)) Zr)
    (Zb (Xd (#[3,pv 1,Za (pv 4) Zc]))
    (Zd (#[0,2,Ym Xe (Ym Xe (pv 2) Zn) (#[6,Za (pv 4) Zc])]))))))
   (Zd (Zj (pv 1)))))),?_⟩
  refine⟨_,rfl,r,_,rfl,.inl hs,rfl,_,rfl,?_⟩
  have el:decide (V.int (((ns.map V.int).length:Nat):Int)=V.int 0)=decide (ns.length=0):=by
   rw[length_map]
   exact Xm _ 0
  show if decide (V.int (((ns.map V.int).length:Nat):Int)=V.int 0)=true then _ else _
  rw[el]
  refine ite2 (λe=>?_) λe=>?_
  ·have:ns=[]:=List.length_eq_zero_iff.mp (of_decide_eq_true e)
   subst this
   exact iteT (kN rfl H (Same.refl H))
  cases ns with
  |nil=>exact absurd rfl e
  |cons n rest =>
   have hix:((n::rest).map V.int)[0]?=some (V.int n):=rfl
   have hat:atI ((n::rest).map V.int) 0=some (V.int n):=Ya (j:=0) hix
   refine Ve (p1:=λi j=>decide (i<=j)) (p2:=λi j=>decide (i<=j)) 1 n 12 (λR h=>h) (λR h=>⟨_,rfl,r,_,_,_,rfl,rfl,hs,hat,h⟩) (λR h=>h) ⟨_,rfl,?_⟩
   have er:(decide (1<=n)&&decide (n<=12))=inRange n 1 NODES:=rfl
   show if(!(decide (1<=n)&&decide (n<=12)))=true then _ else _
   rw[er]
   have hnod:Nb (n::rest)=if inRange n 1 NODES=true then readNodes n.toNat rest else none:=rfl
   refine ite2 (λe1=>?_) λe1=>?_
   ·refine kN ?_ H (Same.refl H)
    rw[hnod,if_neg (λq=>by rw[q]at e1;cases e1)]
   have e1':inRange n 1 NODES=true:=by
    cases q:inRange n 1 NODES with
    |true=>rfl
    |false =>
     rw[q]at e1
     exact absurd rfl e1
   rw[hnod,if_pos e1']at kN kS
   have hn:1<=n/\n<=12:=by
    rw[<-er,Bool.and_eq_true,decide_eq_true_eq,decide_eq_true_eq]at e1'
    exact e1'
   refine⟨Nat.zero_le _,λlt hlt=>?_⟩
   obtain⟨s1,f1⟩:=newE hlt (.lst [])
   generalize upd H lt _=H1 at s1 f1 ⊢
   have hN:n.toNat<=12:=by omega
   refine⟨_,rfl,r,_,_,_,rfl,rfl,s1.seq hs,hat,n,rfl,by omega,by omega,Pb (lo:=0) (n:=n.toNat) (λi σ H'=>∃(ls:List (List Nat)) (pl:Nat) (v3 v4:Option V),σ=[some (.ref r),some (.ref lt),some (.int (pl:Nat)),v3,v4]/\Same H H'/\LinesAt' H' lt ls/\ls.length=i/\1<=pl/\
     readNodes n.toNat rest=(readNodes (n.toNat-i) ((n::rest).drop pl)).map λq=>(ls++q.1,q.2))
    ⟨[],1,none,none,rfl,s1,⟨[],f1,rfl,by simp,λi a l e=>by simp at e⟩,rfl,Nat.le_refl _,by
     show _=(readNodes n.toNat rest).map _
     cases readNodes n.toNat rest <;> rfl⟩ ?_ ?_⟩
   ·rintro i σ H' hi ⟨ls,pl,v3,v4,rfl,s2,l2,hll,hp1,hread⟩
    obtain⟨mi,hmi⟩:∃mi,n.toNat-i=mi+1:=⟨n.toNat-i-1,by omega⟩
    rw[hmi,Rj]at hread
    refine⟨_,rfl,_,rfl,r,n::rest,pl,rfl,s2.seq hs,hz,λhn0 H3 s3=>?_,λa ha H3 t s3 ht f3=>?_⟩
    ·refine⟨_,rfl,rfl,_,rfl,iteT (kN ?_ H3 (s2.trans s3))⟩
     rw[hread,hn0]
     rfl
    ·refine⟨_,rfl,rfl,_,rfl,iteF ?_⟩
     obtain⟨as,a1,a2,a3,a4⟩:=id (l2.same s3)
     have hne:t≠lt:=λq=>by
      obtain⟨as',b1,_⟩:=l2
      rw[q,b1]at ht
      cases ht
     refine⟨_,rfl,.inl ⟨rfl,_,SqL.of a1⟩,_,rfl,lt,_,_,rfl,rfl,a1,Zg (by rw[length_map];omega),?_⟩
     obtain⟨s4,f4⟩:=chg (o:=.lst (as.map V.ref++[.ref t])) (s2.trans s3) hlt
     have f3':upd H3 lt (.lst (as.map V.ref++[.ref t])) t=some (.lst (Zl a)):=Yl f3 hne
     have a4':∀(j:Nat) (b:Addr) (l:List Nat),as[j]?=some b->ls[j]?=some l->upd H3 lt (.lst (as.map V.ref++[.ref t])) b=some (.lst (Zl l)):=λj b l hb hl=>Yl (a4 j b l hb hl) (λq=>a3 (q▸mem_of_getElem? hb))
     generalize upd H3 lt _=H4 at s4 f4 f3' a4' ⊢
     refine⟨_,rfl,_,_,rfl,rfl,_,rfl,t,_,rfl,.inl (SqL.of f3'),_,_,rfl,rfl,?_⟩
     refine⟨ls++[a],pl+(1+a.length),some (.int (0+(i:Int))),some (.ref t),?_,s4,⟨as++[t],?_,?_,?_,λj b l hb hl=>?_⟩,?_,by omega,?_⟩
     ·have e9:(pl:Int)+1+(((Zl a).length:Nat):Int)=((pl+(1+a.length):Nat):Int):=by rw[Zi];omega
      show [some (V.ref r),some (V.ref lt),some (V.int ((pl:Int)+1+(((Zl a).length:Nat):Int))),_,_]=_
      rw[e9]
     ·rw[f4,map_append]
      rfl
     ·rw[length_append,length_append,a2]
      rfl
     ·intro q
      rcases mem_append.mp q with q | q
      ·exact a3 q
      ·exact hne (mem_singleton.mp q).symm
     ·by_cases hj:j<as.length
      ·rw[getElem?_append_left hj]at hb
       rw[getElem?_append_left (by omega)]at hl
       exact a4' j b l hb hl
      ·rw[getElem?_append_right (by omega)]at hb
       rw[getElem?_append_right (by omega)]at hl
       have hj0:j-as.length=0:=by
        have:=(gse.mp hb).1
        simp at this
        omega
       rw[hj0]at hb
       rw[show j-ls.length=0 by omega]at hl
       cases hb
       cases hl
       exact f3'
     ·rw[length_append,hll]
      rfl
     ·rw[hread,ha,show n.toNat-(i+1)=mi by omega]
      show((readNodes mi (((n::rest).drop pl).drop (1+a.length))).map _).map _=_
      rw[List.drop_drop]
      cases readNodes mi ((n::rest).drop (pl+(1+a.length))) with
      |none=>rfl
      |some q =>
       show some (ls++(a::q.1),q.2)=some ((ls++[a])++q.1,q.2)
       rw[append_assoc]
       rfl
   ·rintro σ H' ⟨ls,pl,v3,v4,rfl,s2,l2,hll,hp1,hread⟩
    rw[Nat.sub_self]at hread
    have hread:readNodes n.toNat rest=some (ls++[],(n::rest).drop pl):=hread
    rw[append_nil]at hread
    exact⟨_,rfl,kS _ hread H' lt s2 hlt l2⟩
end
noncomputable def Wk:List Int->List (Nat×Nat)
 |a::b::r=>(a.toNat,b.toNat)::Wk r
 |_=>[]
noncomputable def Qe (n:Nat)(l:List Int):Bool:=l.all λz=>inRange z 0 ((n:Int)-1)
theorem Ny (n:Nat):∀l:List Int,Vawctb.readEdges n l=if l.length % 2=0/\Qe n l=true then some (Wk l) else none
 |[]=>rfl
 |[a]=>by
  rw[if_neg (by simp)]
  rfl
 |a::b::r=>by
  have ih:=Ny n r
  show(if(inRange a 0 ((n:Int)-1)&&inRange b 0 ((n:Int)-1))=true then(Vawctb.readEdges n r).map _ else none)=_
  rw[ih]
  have hl:(a::b::r).length % 2=r.length % 2:=by simp only[length_cons];omega
  have ha:Qe n (a::b::r)=(inRange a 0 ((n:Int)-1)&&(inRange b 0 ((n:Int)-1)&&Qe n r)):=by unfold Qe;rw[List.all_cons,List.all_cons]
  rw[hl,ha]
  cases inRange a 0 ((n:Int)-1) with
  |false=>simp
  |true =>
   cases inRange b 0 ((n:Int)-1) with
   |false=>simp
   |true =>
    by_cases q:r.length % 2=0/\Qe n r=true
    ·simp only[Bool.true_and]
     rw[if_pos trivial,if_pos q,if_pos q]
     rfl
    ·simp only[Bool.true_and]
     rw[if_pos trivial,if_neg q,if_neg q]
     rfl
theorem Sv:∀l:List Int,(Wk l).length=l.length / 2
 |[]=>rfl
 |[a]=>by simp[Wk]
 |a::b::r=>by
  have ih:=Sv r
  show(Wk r).length+1=(r.length+1+1) / 2
  omega
theorem Z3f:∀(l:List Int) (i:Nat) (a b:Int),l[2*i]?=some a->l[2*i+1]?=some b->(Wk l)[i]?=some (a.toNat,b.toNat)
 |[],i,a,b,h,_=>by simp at h
 |[x],i,a,b,h,h2=>by simp at h2
 |x::y::r,0,a,b,h,h2=>by
  have e1:x=a:=Option.some.inj h
  have e2:y=b:=Option.some.inj h2
  subst e1 e2
  rfl
 |x::y::r,i+1,a,b,h,h2=>by
  have ih:=Z3f r i a b (by rw[show 2*(i+1)=2*i+2 by omega]at h;exact h) (by rw[show 2*(i+1)+1=2*i+1+2 by omega]at h2;exact h2)
  exact ih
theorem Z7z {n:Nat}:∀{l:List Int},Qe n l=true->∀e∈Wk l,e.1<n/\e.2<n
 |[],_,e,he=>by cases he
 |[a],_,e,he=>by cases he
 |a::b::r,h,e,he=>by
  have ha:Qe n (a::b::r)=(inRange a 0 ((n:Int)-1)&&(inRange b 0 ((n:Int)-1)&&Qe n r)):=by unfold Qe;rw[List.all_cons,List.all_cons]
  rw[ha,Bool.and_eq_true,Bool.and_eq_true]at h
  obtain⟨h1,h2,h3⟩:=h
  have r1:∀z:Int,inRange z 0 ((n:Int)-1)=true->0<=z/\z<=(n:Int)-1:=λz hz=>by
   have hz:(decide (0<=z)&&decide (z<=(n:Int)-1))=true:=hz
   rw[Bool.and_eq_true,decide_eq_true_eq,decide_eq_true_eq]at hz
   exact hz
  have he:e∈(a.toNat,b.toNat)::Wk r:=he
  rcases List.mem_cons.mp he with q | he
  ·subst q
   have q1:=r1 a h1
   have q2:=r1 b h2
   exact⟨by show a.toNat<n;omega,by show b.toNat<n;omega⟩
  ·exact Z7z h3 e he
theorem rg2 {j:Nat}(h:j<=1000):RgC 0 ((2*j:Nat):Int) 2 j:=by
 have hsz:Builtin.Range.rangeSize 0 ((2*j:Nat):Int) 2=(j:Int):=by
  unfold Builtin.Range.rangeSize
  rw[if_pos (by decide)]
  split <;> omega
 have hf:∀z:Int,-10000<=z->z<=10000->Builtin.Range.rangeFitsLong z=true:=λz h1 h2=>by
  unfold Builtin.Range.rangeFitsLong
  rw[Bool.and_eq_true,decide_eq_true_eq,decide_eq_true_eq]
  omega
 refine⟨by decide,by decide,?_,hsz⟩
 unfold Builtin.Range.small
 rw[hsz,hf 0 (by decide) (by decide),hf _ (by omega) (by omega),hf 2 (by decide) (by decide),hf (j:Int) (by omega) (by omega),if_pos (by decide),hf _ (by omega) (by omega),Bool.or_true]
 rfl
theorem Zg5 {lo c:Int}{n:Nat}{g:TG}{te:TE}{vs:List Nat}{σ:L2.St}{H1:Hp}{D:Addr}{Qd:Hp->Prop}(Pv:Nat->Hp->Prop)(h0:Pv 0 (upd H1 D (.lst [])))
  (hs:∀i H,i<n->Pv i H->g (.int (lo+(i:Nat)*c)) (wipe σ vs) H λσ2 H2=>wipe σ2 vs=wipe σ vs/\te σ2 H2 λy H4=>∃acc,H4 D=some (.lst acc)/\acc.length<sizeLine/\Pv (i+1) (upd H4 D (.lst (acc++[y])))) (hd:∀H,Pv n H->Qd H) :
  ∃W:Nat->Nat->Hp->Prop,(∃m,W 0 m (upd H1 D (.lst [])))/\∀i m H,W i m H->
   ((Itc lo c n).stop i H/\Qd H)\/((Itc lo c n).go i H/\∃Nx:Hp->Prop,(∀H',Nx H'->∃m',m'<m/\W (i+1) m' H')/\∀x H',(Itc lo c n).yld i H x H'->g x (wipe σ vs) H' λσ2 H2=>wipe σ2 vs=wipe σ vs/\tYes σ2 H2 λb H3 =>
    if b=true then te σ2 H3 λy H4=>∃acc,H4 D=some (.lst acc)/\acc.length<sizeLine/\Nx (upd H4 D (.lst (acc++[y]))) else Nx H3):=by
 refine⟨λi m H=>m=n-i/\i<=n/\Pv i H,⟨n,by simp,Nat.zero_le _,h0⟩,?_⟩
 rintro i m H ⟨rfl,hi,p⟩
 by_cases hlt:i<n
 ·refine .inr ⟨hlt,Pv (i+1),λH' p'=>⟨n-(i+1),by omega,rfl,hlt,p'⟩,λx H' y=>?_⟩
  obtain⟨e,y⟩:=y
  subst e y
  exact hs i _ hlt p
 ·have e:i=n:=by omega
  subst e
  exact .inl ⟨Nat.le_refl _,hd H p⟩
noncomputable section
variable {P:Program}{w:World}{K:W.Frag}{mg:Str->Option Value}{base:Heap}{C CB CG f:Addr}{fd:FuncData}
noncomputable def Xu (n:Nat)(ns:List Int):Option (List (Nat×Nat)):=if ns.length % 2=0/\ns.length<=48/\Qe n ns=true then some (Wk ns) else none
noncomputable def Zg6 (K:W.Frag):Sp:=λvs H Q _=>∃(r:Addr) (ns:List Int) (n:Nat),vs=[.ref r,.int n]/\SqL K H r (ns.map V.int)/\ns.length<=400/\
 (Xu n ns=none->∀H',Same H H'->Q .non H')/\∀es,Xu n ns=some es->∀(H':Hp) (t:Addr),Same H H'->EdgesAt H' t es->Q (.ref t) H'
theorem Z5d:FnScope ["numbers","nodes","number","place"] ["numbers","nodes"] (Zf Tz):=#[5]
theorem Z5e (F:Fun K "edges_told" "edges_told" Tz f fd)(B:Blt mg)(L:Cst mg "MOST_EDGES" 24):FnOk P w K mg base CX0 1 f fd ["numbers","nodes"] (Zg6 K):=by
 obtain⟨uL,mL,rL⟩:=L
 exists 0,Z5d
 ·obtain⟨r,ns,n,rfl,hs,hz,kN,kS⟩:=h
  refine⟨_,Zb (Yh (PW.pt (Jm (Zo Ro (Ym Z6i (#[6,Za (pv 0) Zc]) Zn) Zn (Xs _)) (Pa (Zo Zgx (#[6,Za (pv 0) Zc]) (Ym Zkh Zn (Zt rfl mL rL)) (Xs _))))) (Zd (Zj Yb)) Zr)
   (Zb (Yh (Wh (Xf (Yi (Z2x rfl) rfl B.n_all Z3b (Za (Ti (own:=[("number",2)]) rfl SC.nd (Yc (pv 0)) (Yd rfl) (λ_ _ _ _ _=>#[1,2]) (λ_ _ _ _ _=>Yv) (λ_ _ _ _ _=>Z3u Ol Z9q Zn (pv 2) (pv 1))) Zc)))) (Zd (Zj Yb)) Zr)
   (Zd (Zj (Ti (te:=tTup (Z6k (tOp (rIxL K) (tVar 0) (tVar 3)) (Z6k (tOp (rIxL K) (tVar 0) (tOp (rI0 λi j=>.int (i+j)) (tVar 3) (tC (.int 1)))) tNil))) (own:=[("place",3)]) rfl SC.nd (Zeo rfl B.n_range (Za Zn (Za (#[6,Za (pv 0) Zc]) (Za Zn Zc)))) (Yd rfl) (λ_ _ _ _ _=>#[1,3]) (λ_ _ _ _ _=>Yv)
    (λ_ _ _ _ _=>Pc (Za (Yp Zy (pv 0) (pv 3) (λ_ _=>rfl)) (Za (Yp Zy (pv 0) (Ym Xe (pv 3) Zn) (λ_ _=>rfl)) Zc))))))),?_⟩
  refine⟨_,rfl,r,_,rfl,.inl hs,_,_,rfl,rfl,(by show(0:Int)<2;decide),rfl,_,rfl,?_⟩
  have el:decide (V.int ((((ns.map V.int).length:Nat):Int) % 2)=V.int 1)=decide (ns.length % 2=1):=by
   rw[length_map,show((ns.length:Nat):Int) % 2=((ns.length % 2:Nat):Int) by omega]
   exact Xm _ 1
  show if decide (V.int ((((ns.map V.int).length:Nat):Int) % 2)=V.int 1)=true then _ else _
  rw[el]
  refine ite2 (λe=>?_) λe=>?_
  ·have:=of_decide_eq_true e
   refine iteT (kN ?_ H (Same.refl H))
   unfold Xu
   rw[if_neg λq=>by omega]
  have heven:ns.length % 2=0:=by
   have:¬ns.length % 2=1:=λq=>e (decide_eq_true q)
   omega
  refine⟨_,rfl,r,_,rfl,.inl hs,_,_,rfl,rfl,.inl ⟨by decide,by decide⟩,_,_,rfl,rfl,_,rfl,?_⟩
  show if decide (2*24<(((ns.map V.int).length:Nat):Int))=true then _ else _
  rw[length_map]
  refine ite2 (λe1=>?_) λe1=>?_
  ·have:=of_decide_eq_true e1
   refine kN ?_ H (Same.refl H)
   unfold Xu
   rw[if_neg λq=>by omega]
  have hle:ns.length<=48:=Nat.le_of_not_lt λq=>e1 (decide_eq_true (by omega))
  refine⟨_,rfl,r,rfl,⟨_,hs⟩,λD hD=>?_⟩
  refine Ub ((ns.map λz=>inRange z 0 ((n:Int)-1)).map V.bl) (by simp) hD hs (Zg (by rw[length_map];omega)) (λi x H' R hi s1 hR=>?_) λH1 s1 f1=>?_
  ·obtain⟨z,hz',rfl⟩:=Zfj hi
   refine⟨rfl,Ve (p1:=λi j=>decide (i<=j)) (p2:=λi j=>decide (i<j)) 0 z n (λR h=>h) (λR h=>⟨_,rfl,h⟩) (λR h=>⟨_,rfl,h⟩) (hR _ _ ?_ (Same.refl _))⟩
   rw[getElem?_map,getElem?_map,hz']
   show some (V.bl (decide (0<=z)&&decide (z<=(n:Int)-1)))=some (V.bl (decide (0<=z)&&decide (z<(n:Int))))
   have:decide (z<=(n:Int)-1)=decide (z<(n:Int)):=by
    rw[Bool.eq_iff_iff]
    simp only[decide_eq_true_eq]
    omega
   rw[this]
  refine⟨D,_,rfl,SqL.of f1,_,rfl,?_⟩
  have hall:(ns.map λz=>inRange z 0 ((n:Int)-1)).all id=Qe n ns:=by unfold Qe;rw[List.all_map];rfl
  show if(!((ns.map λz=>inRange z 0 ((n:Int)-1)).all id))=true then _ else _
  rw[hall]
  refine ite2 (λe2=>?_) λe2=>?_
  ·refine kN ?_ H1 s1
   unfold Xu
   rw[if_neg λq=>by rw[q.2.2]at e2;cases e2]
  have hin:Qe n ns=true:=by
   cases q:Qe n ns with
   |true=>rfl
   |false =>
    rw[q]at e2
    exact absurd rfl e2
  obtain⟨m,hm⟩:∃m,ns.length=2*m:=⟨ns.length / 2,by omega⟩
  have hlm:(((ns.map V.int).length:Nat):Int)=((2*m:Nat):Int):=by rw[length_map,hm]
  refine⟨_,rfl,r,_,rfl,.inl (s1.seq hs),0,_,2,m,rfl,by rw[hlm];exact rg2 (by omega),λD2 hD2=>?_⟩
  have hp:=Sv ns
  refine Zg5 (λi H'=>Same H1 H'/\∃ts:List Addr,H' D2=some (.lst (ts.map V.ref))/\ts.length=i/\∀(j:Nat) (t:Addr) (e:Nat×Nat),ts[j]?=some t->(Wk ns)[j]?=some e->H' t=some (.tup [.int (e.1:Int),.int (e.2:Int)])) ⟨Zq hD2,[],Ze,rfl,λj t e h=>by simp at h⟩ ?_ ?_
  ·rintro i H' hi ⟨s2,ts,t1,t2,t3⟩
   have h1:ns[2*i]?=some (ns[2*i]'(by omega)):=getElem?_eq_getElem _
   have h2:ns[2*i+1]?=some (ns[2*i+1]'(by omega)):=getElem?_eq_getElem _
   generalize ns[2*i]'(by omega)=x1 at h1
   generalize ns[2*i+1]'(by omega)=x2 at h2
   have hpair:=Z3f ns i x1 x2 h1 h2
   have hx:∀x∈ns,0<=x:=λx hx=>by
    have:=List.all_eq_true.mp hin x hx
    have this:(decide (0<=x)&&decide (x<=(n:Int)-1))=true:=this
    rw[Bool.and_eq_true,decide_eq_true_eq]at this
    exact this.1
   have hs2:=(s1.trans s2).seq hs
   refine⟨rfl,_,rfl,_,rfl,r,_,_,V.int x1,rfl,rfl,hs2,Zeu (j:=2*i) (by omega) (by rw[getElem?_map,h1];rfl),_,rfl,_,rfl,_,_,rfl,rfl,r,_,_,V.int x2,rfl,rfl,hs2,Zeu (j:=2*i+1) (by omega) (by rw[getElem?_map,h2];rfl),(by show 2<=sizeLine;decide),λT hT=>?_⟩
   obtain⟨s3,f3⟩:=newE hT (.tup [.int x1,.int x2])
   generalize upd H' T _=H3 at s3 f3 ⊢
   refine⟨_,s3 _ _ t1,Zg (by rw[length_map];omega),λb o eb=>by rw[Zk (Zm eb hD2)];exact s3 _ _ (s2 _ _ eb),ts++[T],?_,by rw[length_append,t2];rfl,λj t e hj he=>?_⟩
   ·rw[Ze,map_append]
    rfl
   ·have hneD:∀(b:Addr) (xs:List V),H3 b=some (.tup xs)->b≠D2:=λb xs hb=>Xl hb (s3 _ _ t1) (by intro q;cases q)
    by_cases hjl:j<ts.length
    ·rw[getElem?_append_left hjl]at hj
     have:=s3 _ _ (t3 j t e hj he)
     exact Yl this (hneD _ _ this)
    ·rw[getElem?_append_right (by omega)]at hj
     have hj0:j-ts.length=0:=by
      have:=(gse.mp hj).1
      simp at this
      omega
     rw[hj0]at hj
     cases hj
     have hji:j=i:=by omega
     subst hji
     rw[hpair]at he
     cases he
     refine Yl ?_ (hneD _ _ f3)
     rw[f3]
     have n1:=hx x1 (mem_of_getElem? h1)
     have n2:=hx x2 (mem_of_getElem? h2)
     show _=some (HO.tup [V.int ((x1.toNat:Nat):Int),V.int ((x2.toNat:Nat):Int)])
     rw[Int.toNat_of_nonneg n1,Int.toNat_of_nonneg n2]
  ·rintro H' ⟨s2,ts,t1,t2,t3⟩
   refine kS (Wk ns) ?_ H' D2 (s1.trans s2) ⟨ts,t1,by omega,t3⟩
   unfold Xu
   rw[if_pos ⟨heven,hle,hin⟩]
end
theorem Nz (ns:List Int):readGraph ns=(Nb ns).bind λp=>(Xu p.1.length p.2).map λes=>(⟨p.1,es⟩:Graph):=by
 cases ns with
 |nil=>rfl
 |cons n r =>
  show(if inRange n 1 NODES=true then _ else none)=(if inRange n 1 NODES=true then readNodes n.toNat r else none).bind _
  by_cases h:inRange n 1 NODES=true
  ·rw[if_pos h,if_pos h]
   cases q:readNodes n.toNat r with
   |none=>rfl
   |some p =>
    have hl:=(Vp _ _ p.1 p.2 q).1
    show(match Vawctb.readEdges n.toNat p.2 with
     |none=>none
     |some es=>if EDGES<es.length then none else some (⟨p.1,es⟩:Graph))=(Xu p.1.length p.2).map _
    rw[hl,Ny]
    unfold Xu
    by_cases h1:p.2.length % 2=0/\Qe n.toNat p.2=true
    ·rw[if_pos h1]
     show(if EDGES<(Wk p.2).length then none else some _)=_
     have hp:=Sv p.2
     by_cases h2:p.2.length<=48
     ·rw[if_neg (show ¬EDGES<(Wk p.2).length by show ¬24<(Wk p.2).length;omega),if_pos ⟨h1.1,h2,h1.2⟩]
      rfl
     ·rw[if_pos (show EDGES<(Wk p.2).length by show 24<(Wk p.2).length;omega),if_neg (λz=>h2 z.2.1)]
      rfl
    ·rw[if_neg h1,if_neg (λz=>h1 ⟨z.1,z.2.2⟩)]
     rfl
  ·rw[if_neg h,if_neg h]
   rfl
theorem Z8a {ns:List Int}{g:Graph}(h:readGraph ns=some g):GrOk g:=by
 rw[Nz]at h
 cases q:Nb ns with
 |none =>
  rw[q]at h
  cases h
 |some p =>
  rw[q]at h
  have h:(Xu p.1.length p.2).map (λes=>(⟨p.1,es⟩:Graph))=some g:=h
  cases q2:Xu p.1.length p.2 with
  |none =>
   rw[q2]at h
   cases h
  |some es =>
   rw[q2]at h
   cases h
   unfold Xu at q2
   split at q2
   ·rename_i h1
    cases q2
    cases ns with
    |nil=>cases q
    |cons n r =>
     have q:(if inRange n 1 NODES=true then readNodes n.toNat r else none)=some p:=q
     split at q
     ·rename_i h2
      have h2:(decide (1<=n)&&decide (n<=12))=true:=h2
      rw[Bool.and_eq_true,decide_eq_true_eq,decide_eq_true_eq]at h2
      obtain⟨i1,i2,i3⟩:=Vp _ _ p.1 p.2 q
      have hp:=Sv p.2
      exact⟨by show 1<=p.1.length;omega,by show p.1.length<=12;omega,i3,λe he=>Z7z h1.2.2 e he,by show(Wk p.2).length<=24;omega⟩
     ·cases q
   ·cases q2
theorem Zac {ns:List Int}{p:List (List Nat)×List Int}(h:Nb ns=some p):p.2=ns.drop (1+Z3e p.1)/\p.1.length<=12/\∀l∈p.1,l.length<=3:=by
 cases ns with
 |nil=>cases h
 |cons n r =>
  have h:(if inRange n 1 NODES=true then readNodes n.toNat r else none)=some p:=h
  split at h
  ·rename_i h2
   have h2:(decide (1<=n)&&decide (n<=12))=true:=h2
   rw[Bool.and_eq_true,decide_eq_true_eq,decide_eq_true_eq]at h2
   obtain⟨i1,i2,i3⟩:=Vp _ _ p.1 p.2 h
   refine⟨?_,by omega,λl hl=>(i3 l hl).1⟩
   rw[i2,Nat.add_comm 1,List.drop_succ_cons]
  ·cases h
noncomputable section
variable {P:Program}{w:World}{K:W.Frag}{mg:Str->Option Value}{base:Heap}{C CB CG f:Addr}{fd:FuncData}
noncomputable def Zg7 (K:W.Frag)(CG:Addr):Sp:=λvs H Q _=>∃(r:Addr) (ns:List Int),vs=[.ref r]/\SqL K H r (ns.map V.int)/\ns.length<=400/\
 (readGraph ns=none->∀H',Same H H'->Q .non H')/\∀g,readGraph ns=some g->∀(H':Hp) (t:Addr),Same H H'->GraphAt CG H' t g->Q (.ref t) H'
theorem Z5f:FnScope ["row","lines","behind_nodes","own","edges"] ["row"] (Zf Sa):=#[5]
theorem Z5g (F:Fun K "graph_told" "graph_told" Sa f fd)(B:Blt mg)(kN:#[79])(kE:#[80])(kG:#[56]) :
  FnOk P w K mg base CX0 4 f fd ["row"] (Zg7 K CG):=by
 exists 0,Z5f
 ·obtain⟨r,ns,rfl,hs,hz,qN,qS⟩:=h
  have hr1:Room 1 _:=hr.mono (by decide)
  have hr2:Room 2 _:=hr.mono (by decide)
  refine⟨_,Zb (#[0,1,Zs kN hr (Za (pv 0) Zc)])
   (Zb (Yh (Zo Xp (pv 1) Yb rfl) (Zd (Zj Yb)) Zr)
   (Zb (#[0,2,(Ym Xe Zn (Yi (Zb4 rfl) rfl B.n_sum Zbk (Za (Ti (te:=tOp (rI0 λi j=>.int (i+j)) (tC (.int 1)) (tCB (λxs H Q=>∃p ys,xs=[V.ref p]/\(SqL K H p ys\/SqT K H p ys)/\Q (V.int ys.length) H) (Z6k (tVar 3) tNil))) (own:=[("own",3)]) rfl SC.nd (Yc (pv 1)) (Yd rfl)
     (λ_ _ _ _ _=>#[1,3]) (λ_ _ _ _ _=>Yv) (λ_ _ _ _ _=>Ym Xe Zn (#[6,Za (pv 3) Zc]))) Zc)))])
   (Zb (#[0,4,Zs kE hr1 (Za (Sm Z3x (pv 0) (Tf (pv 2)) Z3v) (Za (#[6,Za (pv 1) Zc]) Zc))])
   (Zb (Yh (Zo Xp (pv 4) Yb rfl) (Zd (Zj Yb)) Zr)
   (Zd (Zj (Wz kG hr2 (Za (pv 1) (Za (pv 4) Zc))))))))),?_⟩
  rw[Nz]at qN qS
  refine⟨_,rfl,r,ns,rfl,hs,hz,λhn H1 s1=>?_,λp hp H1 t1 s1 n1 l1=>?_⟩
  ·refine⟨_,rfl,rfl,_,rfl,iteT (qN ?_ H1 s1)⟩
   rw[hn]
   rfl
  rw[hp]at qN qS
  obtain⟨hrem,hle,hl3⟩:=Zac hp
  refine⟨_,rfl,rfl,_,rfl,iteF ?_⟩
  obtain⟨as,a1,a2,a3,a4⟩:=id l1
  refine⟨_,rfl,t1,rfl,⟨_,SqL.of a1⟩,λD hD=>?_⟩
  refine Ub ((p.1.map λl=>((1+l.length:Nat):Int)).map V.int) (by rw[length_map,length_map,length_map];omega) hD (SqL.of a1) (Zg (by rw[length_map];omega)) (λi x H' R hi s2 hR=>?_) λH2 s2 f2=>?_
  ·obtain⟨a,ha,rfl⟩:=Yw hi
   have hil:i<p.1.length:=by
    have:=(gse.mp ha).1
    omega
   obtain⟨l,hl⟩:∃l,p.1[i]?=some l:=⟨_,getElem?_eq_getElem hil⟩
   refine⟨rfl,_,rfl,a,_,rfl,.inl (SqL.of (s2 _ _ (a4 i a l ha hl))),_,_,rfl,rfl,hR _ _ ?_ (Same.refl _)⟩
   rw[getElem?_map,getElem?_map,hl]
   show some (V.int ((1+l.length:Nat):Int))=some (V.int (1+(((Zl l).length:Nat):Int)))
   rw[Zi]
   congr 2
  have hsum:(1:Int)+(p.1.map λl=>((1+l.length:Nat):Int)).sum=((1+Z3e p.1:Nat):Int):=by
   have:∀ls:List (List Nat),(ls.map λl=>((1+l.length:Nat):Int)).sum=((Z3e ls:Nat):Int):=λls=>by
    induction ls with
    |nil=>rfl
    |cons l ls ih =>
     unfold Z3e at ih ⊢
     rw[List.map_cons,List.sum_cons,ih,List.map_cons,List.sum_cons]
     omega
   rw[this]
   omega
  refine⟨D,_,rfl,SqL.of f2,_,_,rfl,rfl,?_⟩
  have s12:=s1.trans s2
  refine⟨_,rfl,_,rfl,_,rfl,r,_,rfl,s12.seq hs,λt3 ht3=>?_⟩
  have hcut:cutV (ns.map V.int) (some ((1:Int)+(p.1.map λl=>((1+l.length:Nat):Int)).sum)) none=p.2.map V.int:=by
   rw[hsum,Zbi,hrem,List.map_drop]
  show _
  rw[hcut]
  obtain⟨s3,f3⟩:=newE ht3 (.lst (p.2.map V.int))
  generalize upd H2 t3 _=H3 at s3 f3 ⊢
  have l3:=(l1.same s2).same s3
  obtain⟨as3,b1,b2,b3,b4⟩:=id l3
  have hlen3:(((as3.map V.ref).length:Nat):Int)=((p.1.length:Nat):Int):=by rw[length_map,b2]
  refine⟨_,rfl,t1,_,rfl,.inl (SqL.of b1),t3,p.2,p.1.length,(by rw[hlen3];rfl),SqL.of f3,by rw[hrem,length_drop];omega,λhn H4 s4=>?_,λes he H4 t4 s4 e4=>?_⟩
  ·refine⟨_,rfl,rfl,_,rfl,iteT (qN ?_ H4 ((s12.trans s3).trans s4))⟩
   show(Xu p.1.length p.2).map _=none
   rw[hn]
   rfl
  ·refine⟨_,rfl,rfl,_,rfl,iteF ⟨_,rfl,_,rfl,λu du nu nd ne=>⟨u,du,_,rfl,rfl,Ze,λH5 f5 k5=>⟨rfl,?_⟩⟩⟩⟩
   have s5:=Same.made nu nd k5
   refine qS ⟨p.1,es⟩ ?_ H5 u (((s12.trans s3).trans s4).trans s5) ⟨du,_,t1,t4,f5,rfl,rfl,(l3.to.same s4).same s5,e4.same s5⟩
   show(Xu p.1.length p.2).map _=_
   rw[he]
   rfl
end
structure VKd (prog:Program)(w:World)(K:Type)[DecidableEq K] where
 is:Heap->K->Value->Prop
 hash:K->Int
 draws:K->Nat
 dep:Nat
 cmp:K->K->Prop
 inj:∀{h:Heap} {v:Value} {x y:K},is h x v->is h y v->x=y
 keeps:∀{h h':Heap} {k:K} {v:Value} {d:Addr} {o:Obj} {es ep},is h k v->h.get? d=some o->o.data=.dict es ep->Heap.SameBut d h h'->is h' k v
 pyHash:∀{A:Around} {E:Value->Shared->Prop} {s:Shared} {k:K} {v:Value} {Q:Int->Shared->Prop},A.units+dep<=cLine->is s.heap k v->Q (hash k) {s with toks:=s.toks+draws k}->wpAny (model prog w) A (PySem.pyHash v) Q E s
 eqBool:∀{A:Around} {E:Value->Shared->Prop} {s:Shared} {x y:K} {u v:Value} {Q:Bool->Shared->Prop},A.units+dep<=cLine->cmp x y->is s.heap x u->is s.heap y v->Q (decide (x=y)) s->wpAny (model prog w) A (PySem.eqBool u v) Q E s
 quiet:∀{A:Around} {E:Value->Shared->Prop} {s:Shared} {k:K} {v:Value} {Q:Bool->Shared->Prop} (n:Nat),dep<=n->is s.heap k v->Q true s->wpAny (model prog w) A (eqIsQuiet n v) Q E s
noncomputable section
variable {prog:Program}{w:World}{A:Around}{E:Value->Shared->Prop}{s:Shared}
theorem Z8b {b:Bool}{Q:Int->Shared->Prop}(h:Q (hashInt (if b then 1 else 0)) {s with toks:=s.toks+1}) :
  wpAny (model prog w) A (pyHash (.bool b)) Q E s:=by
 have hr:=rawHash_range (if b then 1 else 0)
 have hT:s.TypeIs (.bool b) "bool":=rfl
 unfold pyHash
 have hv:[Value.bool b].any Value.onHeap=false:=rfl
 refine wpAny_bind ?_
 rw[cRoomFor,if_neg (by rw[hv];exact Bool.false_ne_true)];refine wpAny_pure ?_
 refine wpAny_bind (wpAny_specialOf hT F.slot_bool_hash.lookup ?_)
 show wpAny _ _ (if(some (Value.builtin "int.__hash__")==some Value.none)=true then _ else _) Q E s
 rw[if_neg (by rw[beq_builtin_none];exact Bool.false_ne_true)]
 refine wpAny_bind (wpAny_specialOf hT F.slot_bool_hash.lookup ?_)
 show wpAny _ _ (callSpecialIfBoundUnlessNone? (.bool b) "__hash__" _ >>= _) Q E s
 refine wpAny_bind (wpAny_callSpecialIfBoundUnlessNone?_slot hT F.slot_bool_hash
  (wpAny_call_entry F.slot_bool_hash hT entry_int_hash
   (show wpAny _ _ (do ret (<-mkInt (rawHash (if b then 1 else 0)))) _ _ s from wpAny_ret_mkInt ?_) (args_int_hash _)))
 show wpAny _ _ (if(decide (-(2:Int) ^ 63<=rawHash (if b then 1 else 0))&&decide (rawHash (if b then 1 else 0)<2 ^ 63))=true then _ else _) Q E _
 rw[if_pos (by rw[decide_eq_true hr.1,decide_eq_true hr.2];rfl)]
 exact wpAny_pure h
theorem Zd2 {a b:Bool}{Q:Bool->Shared->Prop}(h:Q (decide (a=b)) s):wpAny (model prog w) A (eqBool (.bool a) (.bool b)) Q E s:=by
 refine SeqAt.EqAt.bool_bool a b prog w E Q ?_
 rw[show(a==b)=decide (a=b) by cases a <;> cases b <;> rfl]
 exact h
end
noncomputable section
variable (prog:Program)(w:World)
noncomputable def Nc:VKd prog w Nat where
 is:=λ_ n v=>∃t,v=.int (n:Int) t
 hash:=λn=>hashInt (n:Int)
 draws:=λ_=>1
 dep:=0
 cmp:=λ_ _=>True
 inj:=λ⟨t,e⟩ ⟨u,e'⟩=>by rw[e]at e';injection e' with e1;omega
 keeps:=λx _ _ _=>x
 pyHash:=λ_ ⟨t,e⟩ h=>by subst e;exact wpAny_pyHash_int h
 eqBool:=λ{A E s x y u v Q} _ _ ⟨t,e⟩ ⟨t',e'⟩ h=>by
  subst e e'
  refine wpAny_eqBool_int ?_
  rw[show((x:Int)==(y:Int))=decide (x=y) by rw[Bool.eq_iff_iff,beq_iff_eq,decide_eq_true_eq];omega]
  exact h
 quiet:=λn _ ⟨t,e⟩ h=>by subst e;rw[eqIsQuiet_byValue n rfl];exact wpAny_pure h
noncomputable def Ma:VKd prog w Bool where
 is:=λ_ b v=>v=.bool b
 hash:=λb=>hashInt (if b then 1 else 0)
 draws:=λ_=>1
 dep:=0
 cmp:=λ_ _=>True
 inj:=λe e'=>by rw[e]at e';injection e'
 keeps:=λx _ _ _=>x
 pyHash:=λ_ e h=>by subst e;exact Z8b h
 eqBool:=λ_ _ e e' h=>by subst e e';exact Zd2 h
 quiet:=λn _ e h=>by subst e;rw[eqIsQuiet_byValue n rfl];exact wpAny_pure h
end
noncomputable section
variable {prog:Program}{w:World}{K:Type}[DecidableEq K](knd:VKd prog w K)
inductive ItsAre (h:Heap):List K->List Value->Prop
 |nil:ItsAre h [] []
 |cons {k:K} {v:Value} {ks:List K} {vs:List Value}:knd.is h k v->ItsAre h ks vs->ItsAre h (k::ks) (v::vs)
noncomputable def IsTK (h:Heap)(ks:List K)(a:Addr):Prop:=∃o items n,h.get? a=some o/\o.cls=.type "tuple"/\o.data=.seq items n/\ItsAre knd h ks items.toList
noncomputable def Zbs (ks:List K):Int:=reduceHash (Builtin.Tuple.tupleHashOf (ks.map knd.hash))
noncomputable def Uq:List K->Nat
 |[]=>0
 |k::ks=>knd.draws k+Uq ks
variable {knd}
theorem Mb (k:K):∀ks:List K,Uq knd (ks++[k])=Uq knd ks+knd.draws k
 |[]=>by show knd.draws k+0=0+knd.draws k;omega
 |a::ks=>by show knd.draws a+Uq knd (ks++[k])=knd.draws a+Uq knd ks+knd.draws k;rw[Mb k ks];omega
theorem ItsAre.inj {h:Heap}{x y:List K}{vs:List Value}(hx:ItsAre knd h x vs)(hy:ItsAre knd h y vs):x=y:=by
 induction hx generalizing y with
 |nil=>cases hy;rfl
 |cons h1 _ ih =>
  cases hy with
  |cons h2 t2=>rw[knd.inj h1 h2,ih t2]
theorem ItsAre.keeps {h h':Heap}{ks:List K}{vs:List Value}{d:Addr}{o:Obj}{es ep}(x:ItsAre knd h ks vs)(ho:h.get? d=some o)(hd:o.data=.dict es ep)(hs:Heap.SameBut d h h'):ItsAre knd h' ks vs:=by
 induction x with
 |nil=>exact .nil
 |cons h1 _ ih=>exact .cons (knd.keeps h1 ho hd hs) ih
theorem IsTK.typeIs {s:Shared}{ks:List K}{a:Addr}(x:IsTK knd s.heap ks a):s.TypeIs (.ref a) "tuple":=let ⟨o,_,_,ho,hc,_⟩:=x;⟨o,ho,hc⟩
theorem IsTK.inj {h:Heap}{a:Addr}{x y:List K}(hx:IsTK knd h x a)(hy:IsTK knd h y a):x=y:=by
 obtain⟨o,items,n,ho,_,hd,hi⟩:=hx
 obtain⟨o',items',n',ho',_,hd',hi'⟩:=hy
 obtain rfl:o=o':=Option.some.inj (ho.symm.trans ho')
 rw[hd]at hd'
 injection hd' with h1 _
 subst h1
 exact hi.inj hi'
theorem IsTK.keeps {h h':Heap}{ks:List K}{a d:Addr}{o:Obj}{es ep}(x:IsTK knd h ks a)(ho:h.get? d=some o)(hd:o.data=.dict es ep)(hs:Heap.SameBut d h h'):IsTK knd h' ks a:=by
 obtain⟨o',items,n,ho',hc,hd',hi⟩:=x
 have hne:a≠d:=by
  rintro rfl
  obtain rfl:o'=o:=Option.some.inj (ho'.symm.trans ho)
  rw[hd]at hd';exact nomatch hd'
 exact⟨o',items,n,(hs.2 a hne).trans ho',hc,hd',hi.keeps ho hd hs⟩
variable {A:Around}{E:Value->Shared->Prop}{s:Shared}
theorem Z3g {ks:List K}{a:Addr}{Q:Int->Shared->Prop}(hu:A.units+(knd.dep+1)<=cLine)(hk:IsTK knd s.heap ks a)(h:Q (Zbs knd ks) {s with toks:=s.toks+(Uq knd ks+1)}) :
  wpAny (model prog w) A (pyHash (.ref a)) Q E s:=by
 have hT:=hk.typeIs
 have hu1:A.units<cLine:=by omega
 obtain⟨o,items,n,ho,_,hd,hi⟩:=hk
 unfold pyHash
 unfold pyHashByItsType
 refine wpAny_bind (wpAny_cRoomFor_or (.inr hu1) ?_)
 refine wpAny_bind (wpAny_specialOf hT F.slot_tuple_hash.lookup ?_)
 show wpAny _ _ (if(some (Value.builtin "tuple.__hash__")==some Value.none)=true then _ else _) Q E s
 rw[if_neg (by rw[beq_builtin_none];exact Bool.false_ne_true)]
 refine wpAny_bind (wpAny_specialOf hT F.slot_tuple_hash.lookup ?_)
 show wpAny _ _ (callSpecialIfBoundUnlessNone? (.ref a) "__hash__" _ >>= _) Q E s
 refine wpAny_bind (wpAny_callSpecialIfBoundUnlessNone?_slot hT F.slot_tuple_hash (wpAny_call_entry F.slot_tuple_hash hT F.entry_tuple_hash ?_ (F.args_tuple_hash_1 _)))
 show wpAny _ _ (Builtin.Tuple.tupleItemsOf (.ref a) >>= _) _ _ s
 refine wpAny_bind (wpAny_tupleItemsOf ho hd ?_)
 refine wpAny_bind ?_
 rw[<-Array.forIn_toList]
 refine wpAny_forIn_list _
  (λrest (b:Array Int) s'=>∃done left,ks=done++left/\ItsAre knd s.heap left rest/\b.toList=done.map knd.hash/\s'={s with toks:=s.toks+Uq knd done})
  _ ?_ ?_ _ _ ⟨[],ks,rfl,hi,rfl,rfl⟩
 ·rintro x rest b s' ⟨done,left,rfl,hl,hb,rfl⟩
  cases hl with
  |@cons k _ ks' _ h1 hl' =>
   refine wpAny_bind (knd.pyHash (by show A.units+1+knd.dep<=cLine;omega) h1 ?_)
   exact wpAny_pure ⟨done++[k],ks',by simp,hl',by simp[hb],by rw[Mb];simp[Nat.add_assoc]⟩
 ·rintro b s' ⟨done,left,rfl,hl,hb,rfl⟩
  cases hl
  rw[append_nil]at h
  show wpAny _ _ (retInt (Builtin.Tuple.tupleHashOf b.toList)) _ _ _
  rw[hb]
  refine wpAny_ret_mkInt ?_
  show wpAny _ _ (if(decide (-(2:Int) ^ 63<=Builtin.Tuple.tupleHashOf (done.map knd.hash))&&decide (Builtin.Tuple.tupleHashOf (done.map knd.hash)<2 ^ 63))=true then _ else _) Q E _
  unfold Zbs reduceHash at h
  by_cases hr:(decide (-(2:Int) ^ 63<=Builtin.Tuple.tupleHashOf (done.map knd.hash))&&decide (Builtin.Tuple.tupleHashOf (done.map knd.hash)<2 ^ 63))=true
  ·rw[if_pos hr]
   rw[if_pos hr]at h
   exact wpAny_pure (by simpa [Nat.add_assoc] using h)
  ·rw[if_neg hr]
   rw[if_neg hr]at h
   exact wpAny_bind (wpAny_rule (wpAny_pure (by simpa [Nat.add_assoc] using h)))
noncomputable def Zbt (knd:VKd prog w K)(x y:List K):Prop:=∀p∈List.zip x y,knd.cmp p.1 p.2
theorem Zd3 {x y:List K}{a b:Addr}{P:Fin->Shared->Prop}(hu:A.units+knd.dep<=cLine)(hc:Zbt knd x y)(hx:IsTK knd s.heap x a)(hy:IsTK knd s.heap y b)(h:P (.done (.ret (.bool (decide (x=y))))) s) :
  wpAny (model prog w) A (Builtin.«tuple.__eq__» ⟨[.ref a,.ref b],[]⟩) P E s:=by
 have hTb:=hy.typeIs
 obtain⟨oa,xs,na,hoa,_,hda,hia⟩:=hx
 obtain⟨ob,ys,nb,hob,_,hdb,hib⟩:=hy
 show wpAny _ _ (isInstance (.ref b) (.type "tuple") >>= _) _ _ s
 refine wpAny_bind (wpAny_isInstance hTb isSubtype_tuple_tuple ?_)
 simp only[Bool.not_true,Bool.false_eq_true,if_false]
 refine wpAny_bind (wpAny_tupleItemsOf hoa hda ?_)
 refine wpAny_bind (wpAny_tupleItemsOf hob hdb ?_)
 refine wpAny_bind ?_
 refine wpAny_forIn_list _
  (λrest r s'=>r.1=none/\s'=s/\∃x' y' xs' ys',rest=List.zip xs' ys'/\Zbt knd x' y'/\ItsAre knd s.heap x' xs'/\ItsAre knd s.heap y' ys'/\decide (x'=y')=decide (x=y)/\(xs'.length==ys'.length)=(xs.size==ys.size))
  _ ?_ ?_ _ _ ⟨rfl,rfl,x,y,xs.toList,ys.toList,rfl,hc,hia,hib,rfl,by simp⟩
 ·rintro⟨u,v⟩ rest r s' ⟨hr,rfl,x',y',xs',ys',hz,hc',hx',hy',hdec,hlen⟩
  cases hx' with
  |nil=>simp at hz
  |@cons k1 u' x'' xs'' h1 hx'' =>
   cases hy' with
   |nil=>simp at hz
   |@cons k2 v' y'' ys'' h2 hy'' =>
    simp only[List.zip_cons_cons,List.cons.injEq,Prod.mk.injEq]at hz
    obtain⟨⟨rfl,rfl⟩,rfl⟩:=hz
    refine wpAny_bind (knd.eqBool (x:=k1) (y:=k2) hu (hc' (k1,k2) mem_cons_self) h1 h2 ?_)
    by_cases hk:k1=k2
    ·subst hk
     rw[decide_eq_true rfl]
     simp only[Bool.not_true,Bool.false_eq_true,if_false]
     refine wpAny_pure ⟨rfl,rfl,x'',y'',xs'',ys'',rfl,λp hp=>hc' p (mem_cons_of_mem _ hp),hx'',hy'',?_,by simpa using hlen⟩
     rw[<-hdec]
     by_cases hxy:x''=y''
     ·simp[hxy]
     ·simp[hxy]
    ·rw[decide_eq_false hk]
     simp only[Bool.not_false,if_true]
     have hf:decide (x=y)=false:=by rw[<-hdec];simp[hk]
     rw[hf]at h
     exact wpAny_bind (wpAny_pure (wpAny_pure (wpAny_pure h)))
 ·rintro⟨r1,r2⟩ s' ⟨hr,rfl,x',y',xs',ys',hz,_,hx',hy',hdec,hlen⟩
  simp only at hr
  subst hr
  refine wpAny_pure ?_
  have hfin:(xs.size==ys.size)=decide (x=y):=by
   rw[<-hdec,<-hlen]
   cases hx' with
   |nil =>
    cases hy' with
    |nil=>simp
    |cons _ _=>simp
   |cons _ _ =>
    cases hy' with
    |nil=>simp
    |cons _ _=>simp at hz
  show P (.done (.ret (.bool (xs.size==ys.size)))) s'
  rw[hfin];exact h
theorem Zbu {x y:List K}{a b:Addr}{Q:Bool->Shared->Prop}(hu:A.units+(knd.dep+1)<=cLine)(hc:Zbt knd x y)(hx:IsTK knd s.heap x a)(hy:IsTK knd s.heap y b)(h:Q (decide (x=y)) s) :
  wpAny (model prog w) A (eqBool (.ref a) (.ref b)) Q E s:=by
 have hu1:A.units<cLine:=by omega
 unfold eqBool
 refine wpAny_holding ?_
 show wpAny _ _ (if(Value.ref a==Value.ref b)=true then _ else _) Q E s
 by_cases hab:(Value.ref a==Value.ref b)=true
 ·rw[if_pos hab]
  have e:a=b:=by have:=eq_of_beq hab;injection this
  subst e
  obtain rfl:=hx.inj hy
  exact wpAny_bind (wpAny_rule (wpAny_pure (by simpa using h)))
 ·rw[if_neg hab]
  exact wpAny_bind (wpAny_richCompare_same_room (op:=.Eq) hx.typeIs hy.typeIs F.slot_tuple_eq
   (wpAny_call_entry F.slot_tuple_eq hx.typeIs F.entry_tuple_eq (Zd3 (by show A.units+1+knd.dep<=cLine;omega) hc hx hy ⟨_,rfl,(λe=>nomatch e),wpAny_truthy_bool h⟩) (F.args_tuple_eq_2 _ _)) hu1)
theorem Z0s {ks:List K}{a:Addr}{Q:Bool->Shared->Prop}(n:Nat)(hn:knd.dep+1<=n)(hk:IsTK knd s.heap ks a)(h:Q true s):wpAny (model prog w) A (eqIsQuiet n (.ref a)) Q E s:=by
 have hT:=hk.typeIs
 obtain⟨o,items,m,ho,_,hd,hi⟩:=hk
 obtain⟨n,rfl⟩:∃j,n=j+1:=⟨n-1,by omega⟩
 unfold eqIsQuiet
 refine wpAny_bind (wpAny_specialOf hT F.slot_tuple_eq.lookup ?_)
 show wpAny _ _ (isInstance (.ref a) (.type "tuple") >>= _) _ _ s
 refine wpAny_bind (wpAny_isInstance hT isSubtype_tuple_tuple ?_)
 simp only[Bool.not_true,Bool.false_eq_true,if_false]
 refine wpAny_bind (wpAny_seqItems ho hd ?_)
 refine wpAny_bind ?_
 show wpAny _ _ (forIn items _ _) _ _ s
 rw[<-Array.forIn_toList]
 refine wpAny_forIn_list _ (λrest r s'=>r.1=none/\s'=s/\∃left,ItsAre knd s.heap left rest) _ ?_ ?_ _ _ ⟨rfl,rfl,ks,hi⟩
 ·rintro v rest r s' ⟨hr,rfl,left,hl⟩
  cases hl with
  |@cons k _ ks' _ h1 hl' =>
   refine wpAny_bind (knd.quiet n (by omega) h1 ?_)
   simp only[Bool.not_true,Bool.false_eq_true,if_false]
   exact wpAny_pure ⟨rfl,rfl,ks',hl'⟩
 ·rintro⟨r1,r2⟩ s' ⟨hr,rfl,_⟩
  simp only at hr
  subst hr
  exact wpAny_pure h
noncomputable def Zhn (knd:VKd prog w K):VKd prog w (List K) where
 is:=λh ks v=>∃a,v=.ref a/\IsTK knd h ks a
 hash:=Zbs knd
 draws:=λks=>Uq knd ks+1
 dep:=knd.dep+1
 cmp:=Zbt knd
 inj:=λ⟨a,e,x⟩ ⟨b,e',y⟩=>by subst e;cases e';exact x.inj y
 keeps:=λ⟨a,e,x⟩ ho hd hs=>⟨a,e,x.keeps ho hd hs⟩
 pyHash:=λhu ⟨a,e,x⟩ h=>by subst e;exact Z3g hu x h
 eqBool:=λhu hc ⟨a,e,x⟩ ⟨b,e',y⟩ h=>by subst e e';exact Zbu hu hc x y h
 quiet:=λn hn ⟨a,e,x⟩ h=>by subst e;exact Z0s n hn x h
end
end Sl
namespace Sl
open PySem PySem.Spec PyProof.Rows L2
open Vawctb (Moment)
noncomputable section
variable (P:Program)(w:World)
abbrev It3:=Nat ⊕ (List (List Nat) ⊕ Bool)
noncomputable def stVK:VKd P w (List (List Nat)):=Zhn (Zhn (Nc P w))
noncomputable def itVK:VKd P w It3 where
 is:=λh k v=>match k with
  |.inl n=>(Nc P w).is h n v
  |.inr (.inl l)=>(stVK P w).is h l v
  |.inr (.inr b)=>(Ma P w).is h b v
 hash:=λk=>match k with
  |.inl n=>(Nc P w).hash n
  |.inr (.inl l)=>(stVK P w).hash l
  |.inr (.inr b)=>(Ma P w).hash b
 draws:=λk=>match k with
  |.inl n=>(Nc P w).draws n
  |.inr (.inl l)=>(stVK P w).draws l
  |.inr (.inr b)=>(Ma P w).draws b
 dep:=2
 cmp:=λx y=>match x,y with
  |.inl _,.inl _=>True
  |.inr (.inl _),.inr (.inl _)=>True
  |.inr (.inr _),.inr (.inr _)=>True
  |_,_=>False
 inj:=λ{h v x y} hx hy=>by
  match x,y,hx,hy with
  |.inl a,.inl b,hx,hy=>rw[(Nc P w).inj hx hy]
  |.inr (.inl a),.inr (.inl b),hx,hy=>rw[(stVK P w).inj hx hy]
  |.inr (.inr a),.inr (.inr b),hx,hy=>rw[(Ma P w).inj hx hy]
  |.inl a,.inr (.inl b),⟨t,e⟩,⟨q,e',_⟩=>rw[e]at e';cases e'
  |.inl a,.inr (.inr b),⟨t,e⟩,e'=>rw[e]at e';cases e'
  |.inr (.inl a),.inl b,⟨q,e',_⟩,⟨t,e⟩=>rw[e]at e';cases e'
  |.inr (.inl a),.inr (.inr b),⟨q,e',_⟩,e=>rw[e]at e';cases e'
  |.inr (.inr a),.inl b,e',⟨t,e⟩=>rw[e]at e';cases e'
  |.inr (.inr a),.inr (.inl b),e,⟨q,e',_⟩=>rw[e]at e';cases e'
 keeps:=λ{h h' k v d o es ep} x ho hd hs=>by
  match k,x with
  |.inl a,x=>exact(Nc P w).keeps x ho hd hs
  |.inr (.inl a),x=>exact(stVK P w).keeps x ho hd hs
  |.inr (.inr a),x=>exact(Ma P w).keeps x ho hd hs
 pyHash:=λ{A E s k v Q} hu x h=>by
  match k,x,h with
  |.inl a,x,h=>exact(Nc P w).pyHash (by show A.units+0<=cLine;omega) x h
  |.inr (.inl a),x,h=>exact(stVK P w).pyHash hu x h
  |.inr (.inr a),x,h=>exact(Ma P w).pyHash (by show A.units+0<=cLine;omega) x h
 eqBool:=λ{A E s x y u v Q} hu hc hx hy h=>by
  match x,y,hc,hx,hy,h with
  |.inl a,.inl b,_,hx,hy,h=>exact(Nc P w).eqBool (by show A.units+0<=cLine;omega) trivial hx hy (by rw[show decide (a=b)=decide ((Sum.inl a:It3)=Sum.inl b) by by_cases z:a=b <;> simp[z]];exact h)
  |.inr (.inl a),.inr (.inl b),_,hx,hy,h=>exact(stVK P w).eqBool hu (λp _ q _=>trivial) hx hy (by rw[show decide (a=b)=decide ((Sum.inr (Sum.inl a):It3)=Sum.inr (Sum.inl b)) by by_cases z:a=b <;> simp[z]];exact h)
  |.inr (.inr a),.inr (.inr b),_,hx,hy,h=>exact(Ma P w).eqBool (by show A.units+0<=cLine;omega) trivial hx hy (by rw[show decide (a=b)=decide ((Sum.inr (Sum.inr a):It3)=Sum.inr (Sum.inr b)) by by_cases z:a=b <;> simp[z]];exact h)
 quiet:=λ{A E s k v Q} n hn x h=>by
  match k,x with
  |.inl a,x=>exact(Nc P w).quiet n (Nat.zero_le _) x h
  |.inr (.inl a),x=>exact(stVK P w).quiet n hn x h
  |.inr (.inr a),x=>exact(Ma P w).quiet n (Nat.zero_le _) x h
noncomputable def Pw (m:Moment):List It3:=[.inl m.node,.inr (.inl m.cache),.inr (.inr m.stood)]
theorem Z3h {m n:Moment}(h:Pw m=Pw n):m=n:=by
 obtain⟨a,b,c⟩:=m
 obtain⟨a',b',c'⟩:=n
 unfold Pw at h
 simp only[List.cons.injEq,Sum.inl.injEq,Sum.inr.injEq,and_true]at h
 obtain⟨h1,h2,h3⟩:=h
 subst h1 h2 h3
 rfl
noncomputable def Wm:HeapKind P w Moment where
 is:=λh m a=>IsTK (itVK P w) h (Pw m) a
 hash:=λm=>Zbs (itVK P w) (Pw m)
 draws:=λm=>Uq (itVK P w) (Pw m)+1
 room:=λA=>A.units+3<=cLine
 inj:=λhx hy=>Z3h (hx.inj hy)
 keeps:=λx ho hd hs=>x.keeps ho hd hs
 pyHash:=λhu hk h=>Z3g hu hk h
 eqBool:=λ{A E s x y a b Q} hu hx hy h=>Zbu hu (by
   intro p hp
   simp only[Pw,List.zip_cons_cons,List.zip_nil_left,List.mem_cons,not_mem_nil,or_false]at hp
   rcases hp with rfl | rfl | rfl <;> exact trivial) hx hy (by
   rw[show decide (Pw x=Pw y)=decide (x=y) by rw[Bool.eq_iff_iff,decide_eq_true_eq,decide_eq_true_eq];exact⟨Z3h,λq=>by rw[q]⟩]
   exact h)
 quiet:=λhk h=>Z0s 8 (by show 2+1<=8;decide) hk h
end
noncomputable def KeyAt (H:Hp)(b:Addr)(m:Moment):Prop:=∃q,H b=some (.tup [.int (m.node:Int),.ref q,.bl m.stood])/\StateAt H q m.cache
theorem StateAt.tups {H H':Hp}{p:Addr}{c:Vawcta.Cache}(h:StateAt H p c)(s:∀b xs,H b=some (.tup xs)->H' b=some (.tup xs)):StateAt H' p c:=by
 obtain⟨as,h1,h2,h3⟩:=h
 exact⟨as,s _ _ h1,h2,λi a l e1 e2=>s _ _ (h3 i a l e1 e2)⟩
theorem KeyAt.tups {H H':Hp}{b:Addr}{m:Moment}(h:KeyAt H b m)(s:∀b xs,H b=some (.tup xs)->H' b=some (.tup xs)):KeyAt H' b m:=by
 obtain⟨q,h1,h2⟩:=h
 exact⟨q,s _ _ h1,h2.tups s⟩
noncomputable section
variable {P:Program}{w:World}
theorem Zbv {h:Heap}:∀{l:List Nat} {us:List Value},Vals (Zl l) us->ItsAre (Nc P w) h l us
 |[],us,r=>by cases r;exact .nil
 |n::l,us,r=>by
  cases r with
  |cons r1 r2=>exact .cons r1 (Zbv r2)
theorem Zjw {H:Hp}{h:Heap}{a:Addr}{l:List Nat}(ok:HOk P w H h)(e:H a=some (.tup (Zl l))):IsTK (Nc P w) h l a:=by
 obtain⟨_,its,r,o,h1,h2,n,h3⟩:=(show ObjOk P w H h a (.tup (Zl l)) from ok a _ e)
 exact⟨o,its.toArray,n,h1,h2,h3,by simpa using Zbv r⟩
theorem Zho {H:Hp}{h:Heap}{p:Addr}{c:Vawcta.Cache}(ok:HOk P w H h)(hs:StateAt H p c):IsTK (Zhn (Nc P w)) h c p:=by
 obtain⟨as,e,hl,hi⟩:=hs
 obtain⟨_,its,r,o,h1,h2,n,h3⟩:=(show ObjOk P w H h p (.tup (as.map V.ref)) from ok p _ e)
 refine⟨o,its.toArray,n,h1,h2,h3,?_⟩
 have all:∀(as:List Addr) (c:Vawcta.Cache) (its:List Value),as.length=c.length->(∀(i:Nat) (a:Addr) (l:List Nat),as[i]?=some a->c[i]?=some l->H a=some (.tup (Zl l)))->Vals (as.map V.ref) its->ItsAre (Zhn (Nc P w)) h c its:=by
  intro as
  induction as with
  |nil =>
   intro c its hl _ r
   cases r
   cases c with
   |nil=>exact .nil
   |cons _ _=>cases hl
  |cons a as ih =>
   intro c its hl hi r
   cases c with
   |nil=>cases hl
   |cons l c =>
    cases r with
    |cons r1 r2 =>
     refine .cons ⟨a,r1,Zjw ok (hi 0 a l rfl rfl)⟩ (ih c _ (by simpa using hl) (λi a' l' e1 e2=>hi (i+1) a' l' e1 e2) r2)
 simpa using all as c its hl hi r
theorem Z8c {H:Hp}{h:Heap}{b:Addr}{m:Moment}(ok:HOk P w H h)(hk:KeyAt H b m):(Wm P w).is h m b:=by
 obtain⟨q,e,hs⟩:=hk
 obtain⟨_,its,r,o,h1,h2,n,h3⟩:=(show ObjOk P w H h b (.tup [.int (m.node:Int),.ref q,.bl m.stood]) from ok b _ e)
 refine⟨o,its.toArray,n,h1,h2,h3,?_⟩
 cases r with
 |cons r1 r =>
  cases r with
  |cons r2 r =>
   cases r with
   |cons r3 r =>
    cases r
    exact .cons r1 (.cons ⟨q,r2,Zho ok hs⟩ (.cons r3 .nil))
variable (P w) in
noncomputable def ndO (a:Addr)(xs:List (Moment×Addr×Value)):HO:=.ext λh=>∃o es ep,h.get? a=some o/\o.ExactDict/\o.data=.dict es ep/\es.toList=xs.map (entryOfKey (Wm P w))
abbrev KM (H:Hp):List (Moment×V)->List (Moment×Addr×Value)->Prop:=Paired λp q=>p.1=q.1/\KeyAt H q.2.1 p.1/\RelV p.2 q.2.2
variable (P w) in
noncomputable def NDAt (H:Hp)(d:Addr)(kvs:List (Moment×V)):Prop:=∃xs,H d=some (ndO P w d xs)/\KM H kvs xs/\(kvs.map (·.1)).Nodup/\(d==sysModules)=false
theorem NDAt.tups {H H':Hp}{d:Addr}{kvs:List (Moment×V)}(h:NDAt P w H d kvs)(e:H' d=H d)(s:∀b xs,H b=some (.tup xs)->H' b=some (.tup xs)):NDAt P w H' d kvs:=by
 obtain⟨xs,h1,h2,h3,h4⟩:=h
 exact⟨xs,e.trans h1,Paired.mapP h2 λp q z=>⟨z.1,z.2.1.tups s,z.2.2⟩,h3,h4⟩
theorem NDAt.same {H H':Hp}{d:Addr}{kvs:List (Moment×V)}(h:NDAt P w H d kvs)(s:Same H H'):NDAt P w H' d kvs:=by
 have e:H' d=H d:=by
  obtain⟨xs,h1,_⟩:=h
  rw[h1]
  exact s _ _ h1
 exact h.tups e λ_ _ q=>s _ _ q
theorem KM.keys {H:Hp}{kvs:List (Moment×V)}{xs:List (Moment×Addr×Value)}(r:KM H kvs xs):xs.map (·.1)=kvs.map (·.1):=by
 induction r with
 |nil=>rfl
 |cons h t ih=>rw[List.map_cons,List.map_cons,ih,h.1]
theorem KM.val {H:Hp}{kvs:List (Moment×V)}{xs:List (Moment×Addr×Value)}(r:KM H kvs xs)(k:Moment):RelO (valV kvs k) ((atKey xs k).map (·.2)):=by
 induction r with
 |nil=>exact True.intro
 |@cons p q ps qs h t ih =>
  obtain⟨h1,_,h2⟩:=h
  by_cases e:p.1=k
  ·have e':q.1=k:=h1.symm.trans e
   have b:atKey (q::qs) k=some q.2:=by simp[atKey,List.find?_cons,e']
   rw[Wp e,b];exact h2
  ·have e':¬q.1=k:=λz=>e (h1.trans z)
   have b:atKey (q::qs) k=atKey qs k:=by simp[atKey,List.find?_cons,e']
   rw[Wq e,b];exact ih
theorem KM.repl {H:Hp}{kvs:List (Moment×V)}{xs:List (Moment×Addr×Value)}(r:KM H kvs xs)(k:Moment){y:V}{u:Value}(ry:RelV y u) :
  KM H (kvs.map λkv=>if kv.1=k then(kv.1,y) else kv) (xs.map (putAt k u)):=by
 induction r with
 |nil=>exact .nil
 |@cons p q ps qs h t ih =>
  rw[List.map_cons,List.map_cons]
  refine .cons ?_ ih
  obtain⟨h1,h2,h3⟩:=h
  unfold putAt
  by_cases e:p.1=k
  ·rw[if_pos e,if_pos (h1.symm.trans e)];exact⟨h1,h2,ry⟩
  ·rw[if_neg e,if_neg (λz=>e (h1.trans z))];exact⟨h1,h2,h3⟩
theorem KM.put {H:Hp}{kvs:List (Moment×V)}{xs:List (Moment×Addr×Value)}(r:KM H kvs xs)(k:Moment){b:Addr}{y:V}{u:Value}(hb:KeyAt H b k)(ry:RelV y u) :
  KM H (putK kvs k y) (storedH xs k b u):=by
 have e:(kvs.any λkv=>decide (kv.1=k))=(atKey xs k).isSome:=by
  rw[Ue,(r.val k).isSome_eq,Option.isSome_map]
 unfold putK storedH
 rw[e]
 by_cases q:(atKey xs k).isSome=true
 ·rw[if_pos q,if_pos q];exact r.repl k ry
 ·rw[if_neg q,if_neg q];exact Paired.snoc r ⟨rfl,hb,ry⟩
theorem Zhp {H:Hp}{h:Heap}{d:Addr}{kvs:List (Moment×V)}{xs:List (Moment×Addr×Value)}(ok:HOk P w H h)(e:H d=some (ndO P w d xs))(r:KM H kvs xs)(nd:(kvs.map (·.1)).Nodup):h.DictOfH (Wm P w) d xs:=by
 obtain⟨⟨o,es,ep,h1,h2,h3,h4⟩,_⟩:=(show ObjOk P w H h d (ndO P w d xs) from ok d _ e)
 refine⟨o,es,ep,h1,h2,h3,h4,λx hx=>?_,by rw[r.keys];exact nd⟩
 have all:∀{l:List (Moment×V)} {m:List (Moment×Addr×Value)},KM H l m->∀x∈m,(Wm P w).is h x.1 x.2.1:=by
  intro l m q
  induction q with
  |nil=>intro x hx;exact nomatch hx
  |@cons p q ps qs hq t ih =>
   intro x hx
   rcases List.mem_cons.mp hx with e | hx
   ·subst e
    exact Z8c ok (by rw[<-hq.1];exact hq.2.1)
   ·exact ih x hx
 exact all r x hx
theorem Zl8 {H:Hp}{h:Heap}{d:Addr}{xs:List (Moment×Addr×Value)}(dd:h.DictOfH (Wm P w) d xs):ObjOk P w H h d (ndO P w d xs):=by
 obtain⟨o,es,ep,h1,h2,h3,h4,_⟩:=dd
 refine⟨⟨o,es,ep,h1,h2,h3,h4⟩,⟨o,h1⟩,λg1 g2 ⟨o,es,ep,e1,e2⟩ k=>⟨o,es,ep,k _ e1,e2⟩⟩
end
theorem Zjx {kvs:List (Moment×V)}(k:Moment)(y:V)(h:(kvs.map (·.1)).Nodup):((putK kvs k y).map (·.1)).Nodup:=by
 unfold putK
 by_cases q:(kvs.any λkv=>decide (kv.1=k))=true
 ·rw[if_pos q,List.map_map]
  rw[show((·.1)∘λkv:Moment×V=>if kv.1=k then(kv.1,y) else kv)=(λkv:Moment×V=>kv.1) from funext λkv=>by
   show(if kv.1=k then(kv.1,y) else kv).1=kv.1
   split <;> rfl]
  exact h
 ·rw[if_neg q,map_append,List.nodup_append]
  refine⟨h,nodup_cons.mpr ⟨not_mem_nil,nodup_nil⟩,λa ha b hb e=>q ?_⟩
  obtain⟨z,hz,rfl⟩:=mem_map.mp ha
  have hb':b=k:=by simpa using hb
  exact List.any_eq_true.mpr ⟨z,hz,decide_eq_true (e.trans hb')⟩
noncomputable section
variable {X:Cx}
noncomputable def rInN (P:Program)(w:World)(neg:Bool):R2:=λx y H Q=>∃b d m kvs,x=.ref b/\y=.ref d/\KeyAt H b m/\NDAt P w H d kvs/\Q (.bl (if neg then !(valV kvs m).isSome else(valV kvs m).isSome)) H
theorem Zad (hu:X.A.units+64<cLine):OpR X (compareOp .NotIn) (rInN X.prog X.w true):=by
 intro pins s σ H x y v u Q I rx ry h
 obtain⟨b,d,m,kvs,rfl,rfl,hk,⟨xs,e,rel,nd,hd⟩,q⟩:=h
 cases rx
 cases ry
 refine wpAny_notIn_heap (knd:=Wm X.prog X.w) (by show X.A.units+1+3<=cLine;omega) (Z8c I.hok hk) hd (Zhp I.hok e rel nd) ?_
 have q2:=(rel.val m).isSome_eq
 rw[Option.isSome_map]at q2
 rw[<-q2]
 exact⟨.bl _,H,I.tok _,rfl,q⟩
noncomputable def rIxN (P:Program)(w:World):R2:=λx y H Q=>∃d b m kvs v,x=.ref d/\y=.ref b/\KeyAt H b m/\NDAt P w H d kvs/\valV kvs m=some v/\Q v H
theorem Zm9 (hu:X.A.units+64<cLine):IxR X (rIxN X.prog X.w):=by
 intro value slice pins s σ H x y v u Q I rx ry h hs
 obtain⟨d,b,m,kvs,z,rfl,rfl,hk,⟨xs,e,rel,nd,hd⟩,l,q⟩:=h
 cases rx
 cases ry
 obtain⟨w',hw,rw'⟩:=RelO.some_of (v:=z) (o:=(atKey xs m).map (·.2)) (by rw[<-l];exact rel.val m)
 obtain⟨p,hp,hp2⟩:=Option.map_eq_some_iff.mp hw
 have dd:=Zhp I.hok e rel nd
 refine subscriptTail_builtinR (x:=p.2) dd.typeIs slot_dict_getitem.lookup
  (wpAny_getItem_heap (knd:=Wm X.prog X.w) (Q:=λr s'=>r=p.2/\EP X pins σ Q r s') (by show X.A.units+1+3<=cLine;omega) (Z8c I.hok hk) dd hp ⟨rfl,?_⟩) hs
 rw[hp2]
 exact⟨z,H,I.tok _,rw',q⟩
noncomputable def Zma (P:Program)(w:World):V->V->V->Hp->(Hp->Prop)->Prop:=λo i v H Q=>∃d b m kvs,o=.ref d/\i=.ref b/\KeyAt H b m/\NDAt P w H d kvs/\kvs.length<=100000/\∀o',NDAt P w (upd H d o') d (putK kvs m v)->Q (upd H d o')
theorem Zhq {P:Program}{w:World}{H:Hp}{d:Addr}{xs:List (Moment×Addr×Value)}{o':HO}(e:H d=some (ndO P w d xs)):∀b ys,H b=some (.tup ys)->upd H d o' b=some (.tup ys):=λb ys h=>by
 rw[Zk (Xl h e (by intro z;cases z))]
 exact h
theorem Zbw {pins:List (Addr×Obj)}{σ:L2.St}{H:Hp}{s:Shared}{d b:Addr}{m:Moment}{kvs:List (Moment×V)}{xs:List (Moment×Addr×Value)}{v:V}{r:Value}{h':Heap}{t:Nat}(I:Inv X pins σ H s)(e:H d=some (ndO X.prog X.w d xs))(rel:KM H kvs xs)(nd:(kvs.map (·.1)).Nodup)(hd:(d==sysModules)=false)(hk:KeyAt H b m)(rv:RelV v r)
  (dd:h'.DictOfH (Wm X.prog X.w) d (storedH xs m b r)) (hs:Heap.SameBut d s.heap h') :
  Inv X pins σ (upd H d (ndO X.prog X.w d (storedH xs m b r))) {s with heap:=h',toks:=t}/\NDAt X.prog X.w (upd H d (ndO X.prog X.w d (storedH xs m b r))) d (putK kvs m v):=by
 have he:∃q,h'.get? d=some q:=let ⟨q,_,_,hq,_⟩:=dd;⟨q,hq⟩
 refine⟨Z9v I (by rw[e];exact True.intro) hs he (Zl8 dd),storedH xs m b r,Ze,?_,Sl.Zjx m v nd,hd⟩
 exact Paired.mapP (rel.put m hk rv) λp q z=>⟨z.1,z.2.1.tups (Zhq e),z.2.2⟩
theorem Zir (hu:X.A.units+64<cLine):PSet X (Zma X.prog X.w):=by
 intro pins s σ H o i v ov iv u Q I ro ri rv h
 obtain⟨d,b,m,kvs,rfl,rfl,hk,⟨xs,e,rel,nd,hd⟩,hz,q⟩:=h
 cases ro
 cases ri
 refine wpAny_setItem_heap (knd:=Wm X.prog X.w) (hsz:=by rw[<-Paired.length rel];exact Nat.le_of_lt (Zg hz)) (by show X.A.units+1+3<=cLine;omega) (Z8c I.hok hk) (Zhp I.hok e rel nd) λh' dd hs=>?_
 obtain⟨I',n'⟩:=Zbw (t:=s.toks+(Wm X.prog X.w).draws m) I e rel nd hd hk rv dd hs
 exact⟨_,I',q _ n'⟩
theorem Zbx {P:Program}{w:World}{H:Hp}(h:Heap):ObjOk P w H (h.push {cls:=.type "dict",data:=.dict #[]}) h.objs.size (ndO P w h.objs.size []):=Zl8 (Heap.DictOfH.new h)
noncomputable def Zl9 (P:Program)(w:World):TE:=λ_ H Q=>∀p o,H p=none->NDAt P w (upd H p o) p []->Q (.ref p) (upd H p o)
theorem Zby {pins:List (Addr×Obj)}{σ:L2.St}{H:Hp}{s:Shared}(I:Inv X pins σ H s):NDAt X.prog X.w (upd H s.heap.objs.size (ndO X.prog X.w s.heap.objs.size [])) s.heap.objs.size [] :=
 ⟨[],Ze,.nil,nodup_nil,beq_eq_false_iff_ne.mpr (Ne.symm (Nat.ne_of_lt I.big))⟩
theorem Zhr {pos:Pos}:PE X (.Dict [] [] pos) (Zl9 X.prog X.w):=λpins s σ H Q I h =>
 wpAny_Dict_empty ⟨.ref s.heap.objs.size,_,I.laid (a:=s.heap.objs.size) (o:=ndO X.prog X.w s.heap.objs.size []) (t':=s.toks) (λ_ _ q=>Heap.get?_push_of_some _ q) (Nat.le_refl _) (Zbx s.heap),rfl,h _ _ (I.hok.fresh (Nat.le_refl _)) (Zby I)⟩
noncomputable def Zla (P:Program)(w:World)(tk tv:TE):TE:=λσ H Q=>∀p o,H p=none->NDAt P w (upd H p o) p []->tk σ (upd H p o) λx H1=>tv σ H1 λy H2=>∃b m,x=.ref b/\KeyAt H2 b m/\NDAt P w H2 p []/\∀o',NDAt P w (upd H2 p o') p [(m,y)]->Q (.ref p) (upd H2 p o')
theorem Zhs {k v:Expr}{pos:Pos}{tk tv:TE}(hu:X.A.units+64<cLine)(hk:PE X k tk)(hv:PE X v tv):PE X (.Dict [some k] [v] pos) (Zla X.prog X.w tk tv):=by
 intro pins s σ H Q I q
 have hn:=I.hok.fresh (Nat.le_refl s.heap.objs.size)
 have I1:=I.laid (a:=s.heap.objs.size) (o:=ndO X.prog X.w s.heap.objs.size []) (h':=s.heap.push {cls:=.type "dict",data:=.dict #[]}) (t':=s.toks) (λ_ _ q=>Heap.get?_push_of_some _ q) (Nat.le_refl _) (Zbx s.heap)
 refine wpAny_Dict_any rfl rfl (by simp) (by show 1<=15;decide) ?_
 refine pairTrees_cons_walk (thn (hk pins _ σ _ _ I1 (q _ _ hn (Zby I))) λu s1 ⟨x,H1,I1,rx,q1⟩=>thn (hv pins s1 σ H1 _ I1 q1) λw2 s2 ⟨y,H2,I2,ry,b,m,ex,hkey,⟨xs,e,rel,nd,hd⟩,q2⟩=>pairTrees_nil_walk ?_)
 subst ex
 cases rx
 cases rel
 unfold storeAll
 rw[List.forIn_cons]
 refine wpAny_bind (wpAny_bind (wpAny_dictSet_heap (knd:=Wm X.prog X.w) (hsz:=Nat.zero_le _) (by show X.A.units+3<=cLine;omega) (Z8c I2.hok hkey) (Zhp I2.hok e .nil nodup_nil) λh' dd hs=>wpAny_pure ?_))
 dsimp only
 rw[List.forIn_nil]
 refine wpAny_pure ?_
 obtain⟨I',n'⟩:=Zbw (t:=s2.toks+(Wm X.prog X.w).draws m) I2 e .nil nodup_nil hd hkey ry dd hs
 exact⟨.ref s.heap.objs.size,_,I',rfl,q2 _ n'⟩
end
end Sl
namespace Sl
open PySem PySem.Spec PyProof.Rows L2
theorem Zd4:typeLookup (.type "list_reverseiterator") "__len__"=pure none:=by rw[typeLookup_type,builtinLookup_eq_fast];kernel_rfl
theorem Zht:typeLookup (.type "list_reverseiterator") "__length_hint__"=pure (some (.builtin "list_reverseiterator.__length_hint__")):=by rw[typeLookup_type,builtinLookup_eq_fast];kernel_rfl
noncomputable section
variable {prog:Program}{w:World}{A:Around}{E:Value->Shared->Prop}{s:Shared}
theorem Zhu {r:Addr}{Q:Bool->Shared->Prop}(hT:s.TypeIs (.ref r) "list_reverseiterator")(h:Q false s):wpAny (model prog w) A (Builtin.List.listLengthHint (.ref r)) Q E s:=by
 unfold Builtin.List.listLengthHint
 refine wpAny_bind (wpAny_specialOf hT Zd4 ?_)
 show wpAny _ _ (specialOf (Value.ref r) (Str.ofString "__length_hint__") >>= _) _ _ _
 refine wpAny_bind (wpAny_specialOf hT Zht ?_)
 generalize hid:("list_reverseiterator.__length_hint__":String)=id0
 wp_delta
 rw[show splitId id0=some ("list_reverseiterator","__length_hint__") from by subst hid;decide +kernel]
 subst hid
 refine wpAny_bind (wpAny_isInstance (T:="list_reverseiterator") (b:=true) hT (by rw[isSubtype_type];kernel_rfl) ?_)
 refine wpAny_ite_split (λhab=>absurd hab (by decide)) (λ_=>?_)
 refine wpAny_ite_split (λ_=>?_) (λhab=>absurd (by decide +kernel) hab)
 refine wpAny_ite_split (λhab=>absurd hab (by decide +kernel)) (λ_=>?_)
 exact wpAny_pure h
theorem Zd5 {R:Result->Shared->Prop}{r l:Addr}{items:Array Value}(hh:A.handled=none)(hne:l≠r)(hr:s.heap.IsRevIter r l ((items.size:Int)-1-((0:Nat):Int)))(hl:s.heap.IsList l items)(hz:items.size<=sizeLine)
  (S:Addr) (hSr:S≠r) (hSl:S≠l) (res:Value) (c₀:Nat) (hS:s.heap.get? S=some {cls:=.type "list",data:=.seq #[] c₀})
  (hR:∀h' tk acc' c',(∀b o,b≠S->b≠r->s.heap.get? b=some o->h'.get? b=some o)->h'.get? S=some {cls:=.type "list",dict:=none,data:=.seq acc' c',slots:=#[]}->
   ItemsOf (λi v=>items[items.size-1-i]?=some v) acc' items.size->R (.ok (.ret res)) {s with heap:=h',toks:=tk}) :
  wpAny (model prog w) A.in1 (Builtin.List.listExtendWith (.ref S) (.ref r) res)
   (λfin s'=>match fin with | .done f=>R (.ok f) s' | .again c'=>c'.quiet=true/\codeAny (model prog w) A c' R s') (λe s'=>R (.error e) s') s:=by
 have W:=(Walks.listRev (prog:=prog) (w:=w) (A:=A.in1) hh r l hne items).toS
 have hSf:S∉[r,l]:=λhm=>by
  rcases List.mem_cons.mp hm with e | hm
  ·exact hSr e
  ·exact hSl (mem_singleton.mp hm)
 unfold Builtin.List.listExtendWith
 refine wpAny_bind (wpAny_typeOf (T:="list_reverseiterator") hr.typeIs ?_)
 have h1:Builtin.List.listSameRef (.ref S) (.ref r)=false:=by simp[Builtin.List.listSameRef,hSr]
 have h2:(Value.type "list_reverseiterator"==Value.type "list")=false:=by decide
 have h3:(Value.type "list_reverseiterator"==Value.type "tuple")=false:=by decide
 simp only[h1,h2,h3,Bool.or_false,Bool.false_eq_true,if_false]
 refine wpAny_bind (wpAny_pyIter_revIter hr ?_)
 refine wpAny_bind (wpAny_holding (Zhu hr.typeIs ?_))
 have key:codeAny (model prog w) A (.builtin "list.extend.loop" ⟨[.ref S,.ref r,res],[]⟩) R s:=by
  refine codeAny_extend_loopS W hz S hSf res items.size 0 s #[] c₀ rfl (Nat.zero_le _) ⟨Nat.zero_le _,hr,hl⟩ hS (ItemsOf.nil _) λs' acc' c' hm hS' hacc=>?_
  rw[Moved.eq_with hm]
  refine hR s'.heap s'.toks acc' c' (λb o hb hbr e=>hm.heap b o (λhmem=>?_) e) hS' hacc
  rcases List.mem_cons.mp hmem with e' | hmem
  ·exact hb e'
  ·exact hbr (mem_singleton.mp hmem)
 refine wpAny_ite_split (λhab=>absurd hab (by decide +kernel)) (λ_=>wpAny_pure ⟨plainId_quiet F.plain_extend_loop _,key⟩)
theorem Z5h {R:Result->Shared->Prop}{r l:Addr}{items:Array Value}(hh:A.handled=none)(hne:l≠r)(hr:s.heap.IsRevIter r l ((items.size:Int)-1-((0:Nat):Int)))(hl:s.heap.IsList l items)(hz:items.size<=sizeLine)
  (S:Addr) (hSr:S≠r) (hSl:S≠l) (hS:s.heap.get? S=some {cls:=.type "list",data:=.seq #[]})
  (hR:∀h' tk acc' c',(∀b o,b≠S->b≠r->s.heap.get? b=some o->h'.get? b=some o)->h'.get? S=some {cls:=.type "list",dict:=none,data:=.seq acc' c',slots:=#[]}->
   ItemsOf (λi v=>items[items.size-1-i]?=some v) acc' items.size->R (.ok (.ret .none)) {s with heap:=h',toks:=tk}) :
  wpAny (model prog w) A.in1 (Builtin.«list.__init__» ⟨[.ref S,.ref r],[]⟩)
   (λfin s'=>match fin with | .done f=>R (.ok f) s' | .again c'=>c'.quiet=true/\codeAny (model prog w) A c' R s') (λe s'=>R (.error e) s') s:=by
 show wpAny _ _ (do let old<-Builtin.List.listItems (.ref S);Builtin.List.listUpdate (.ref S) (λ_=>#[]);letGo old.toList.reverse;Builtin.List.listExtendWith (.ref S) (.ref r) .none) _ _ s
 refine wpAny_bind ?_
 unfold Builtin.List.listItems
 refine wpAny_bind (wpAny_seqItems hS rfl (wpAny_pure ?_))
 show wpAny _ _ (updateSeq S (λ_=>#[]) >>= λ_=>letGo (#[]:Array Value).toList.reverse >>= λ_=>Builtin.List.listExtendWith (.ref S) (.ref r) .none) _ _ s
 refine wpAny_bind (wpAny_updateSeq hS rfl ?_)
 have hS₂:=Heap.get?_update_self (Obj.mapSeq (λ_=>(#[]:Array Value))) hS rfl
 have oth:∀b o,b≠S->s.heap.get? b=some o->(s.heap.update S (Obj.mapSeq (λ_=>(#[]:Array Value)))).get? b=some o :=
  λb o hb e=>(Heap.get?_update_other _ _ (Ne.symm hb)).trans e
 refine wpAny_bind (wpAny_letGo ?_)
 refine Zd5 hh hne (hr.at λo e=>oth _ _ (Ne.symm hSr) e) (hl.at λo e=>oth _ _ (Ne.symm hSl) e) hz S hSr hSl .none _ hS₂ λh' tk acc' c' hk hS' hacc=>?_
 exact hR h' tk acc' c' (λb o hb hbr e=>hk b o hb hbr (oth b o hb e)) hS' hacc
theorem Z5i {Q:Value->Shared->Prop}{r l:Addr}{items:Array Value}(hh:A.handled=none)(hne:l≠r)(hr:s.heap.IsRevIter r l ((items.size:Int)-1-((0:Nat):Int)))(hl:s.heap.IsList l items)(hz:items.size<=sizeLine)
  (hQ:∀h' tk acc' c',(∀b o,b≠r->s.heap.get? b=some o->h'.get? b=some o)->
   h'.get? s.heap.objs.size=some {cls:=.type "list",dict:=none,data:=.seq acc' c',slots:=#[]}->ItemsOf (λi v=>items[items.size-1-i]?=some v) acc' items.size->Q (.ref s.heap.objs.size) {s with heap:=h',toks:=tk}) :
  wpAny (model prog w) A (call (.type "list") [.ref r]) Q E s:=by
 refine callType_codes (Q₁:=λobj s₁=>obj=.ref s.heap.objs.size/\s₁={s with heap:=s.heap.push {cls:=.type "list",data:=.seq #[]}}) F.called_list (F.typeCall_list_1 _) F.entry_list_init
  (code_list_new _ ⟨rfl,rfl⟩) λobj s₁ h₁=>?_
 obtain⟨rfl,rfl⟩:=h₁
 have hS:(s.heap.push {cls:=.type "list",data:=.seq #[]}).get? s.heap.objs.size=some {cls:=.type "list",data:=.seq #[]}:=Heap.get?_push_size _ rfl
 have hrl:r<s.heap.objs.size:=let ⟨_,e,_⟩:=hr;Heap.lt_size e
 have hll:l<s.heap.objs.size:=let ⟨_,e,_⟩:=hl;Heap.lt_size e
 refine⟨⟨_,hS,rfl⟩,F.args_list_init_2 _ _,Z5h (A:=A.in1) hh hne (hr.at λo e=>Heap.get?_push_of_some _ e) (hl.at λo e=>Heap.get?_push_of_some _ e) hz _ (Nat.ne_of_gt hrl) (Nat.ne_of_gt hll) hS λh' tk acc' c' hk hS' hacc=>?_⟩
 exact⟨rfl,hQ h' tk acc' c' (λb o hbr e=>hk b o (Nat.ne_of_lt (Heap.lt_size e)) hbr (Heap.get?_push_of_some _ e)) hS' hacc⟩
end
noncomputable section
variable {X:Cx}
noncomputable def Zhv (K:W.Frag)(ta:TA):TE:=λσ H Q=>ta σ H λvs H1=>∃(a:Addr) (xs:List V),vs=[.ref a]/\SqL K H1 a xs/\xs.length<=100000/\∀p,H1 p=none->Q (.ref p) (upd H1 p (.lst xs.reverse))
theorem Zjy {xs:List V}:∀{acc:List Value},xs.length=acc.length->(∀(i:Nat) (x:V) (u:Value),xs[i]?=some x->acc[i]?=some u->RelV x u)->Vals xs acc:=by
 intro acc
 induction xs generalizing acc with
 |nil =>
  intro hl _
  cases acc with
  |nil=>exact .nil
  |cons _ _=>cases hl
 |cons x xs ih =>
  intro hl h
  cases acc with
  |nil=>cases hl
  |cons u acc=>exact .cons (h 0 x u rfl rfl) (ih (by simpa using hl) λi y v e1 e2=>h (i+1) y v e1 e2)
theorem Zd6 {e:Expr}{ta:TA}{p p2 pos pos2:Pos}(hc:X.calm=true)(hg:Gl X "list")(hm:X.mg "list"=none)(hg2:Gl X "reversed")(hm2:X.mg "reversed"=none)(ha:PA X [e] ta)
  (he:starEach [.Call (.Name "reversed" p2) [e] [] pos2] X.env=[(false,eval (.Call (.Name "reversed" p2) [e] [] pos2) X.env)]:=by rfl) (hs:starEach [e] X.env=[(false,eval e X.env)]:=by rfl) :
  PE X (.Call (.Name "list" p) [.Call (.Name "reversed" p2) [e] [] pos2] [] pos) (Zhv X.K ta):=by
 intro pins s σ H Q I h
 refine wpAny_Call_Name_kw (Td I hg hm Zjs ?_)
 refine PyProof.Rows.callWith_type1 ?_ (he.trans rfl) rfl
 rw[he]
 show wpAny _ _ (spliced ((false,eval (.Call (.Name "reversed" p2) [e] [] pos2) X.env)::backTo pos [])) _ _ s
 refine Calls.spliced_cons ?_
 refine Call_ (Td I hg2 hm2 Z1q (PyProof.Rows.callWith_type1 (thn (ha pos2 pins s σ H _ I h) λus s1 ⟨vs,H1,I1,r1,q1⟩=>?_) hs rfl))
 obtain⟨a,xs,e,hq,hz,q⟩:=q1
 subst e
 cases r1 with
 |cons r rr =>
  cases rr
  cases r
  obtain⟨its,rv,p',hz'⟩:=I1.list hq
  have hl:=rv.length
  have hll:a<s1.heap.objs.size:=let ⟨_,e,_⟩:=p'.isList;Heap.lt_size e
  refine call_reversed_list p'.isList ?_
  refine Calls.spliced_nil ?_
  have e1:((its.toArray.size:Nat):Int)-1=((its.toArray.size:Nat):Int)-1-((0:Nat):Int):=by omega
  refine Z5i (l:=a) (items:=its.toArray) (I1.ok.hd hc) (Nat.ne_of_lt hll) ?_ (p'.isList.at λo e=>Heap.get?_push_of_some _ e) (by rw[List.size_toArray,<-hl];exact Nat.le_of_lt (Zg hz)) λh' tk acc' c' hk hS' hacc=>?_
  ·rw[<-e1]
   exact⟨_,Heap.get?_push_size _ rfl,rfl,rfl⟩
  ·have hsz:(s1.heap.push (revObj a (((its.toArray.size:Nat):Int)-1))).objs.size=s1.heap.objs.size+1:=by simp[Heap.push]
   refine⟨.ref _,_,I1.laid (a:=(s1.heap.push (revObj a (((its.toArray.size:Nat):Int)-1))).objs.size) (o:=.lst xs.reverse) (λb u eb=>hk b u (Nat.ne_of_lt (Heap.lt_size eb)) (Heap.get?_push_of_some _ eb)) (by omega) ?_,rfl,q _ (I1.hok.fresh (by show _<=(s1.heap.push (revObj a (((its.toArray.size:Nat):Int)-1))).objs.size;omega))⟩
   refine⟨by rw[length_reverse];exact Nat.le_of_lt (Zg hz),acc'.toList,c',?_,by simpa using hS'⟩
   obtain⟨ha1,ha2⟩:=hacc
   have hlen:xs.reverse.length=acc'.toList.length:=by
    rw[length_reverse,hl]
    have e3:acc'.toList.length=acc'.size:=Array.length_toList
    rw[e3,ha1,List.size_toArray]
   refine Zjy hlen λi x u ex eu=>?_
   rw[List.getElem?_reverse (by have:=(gse.mp ex).1;rw[length_reverse]at this;exact this)]at ex
   have eu':=ha2 i u (by rw[<-Array.getElem?_toList];exact eu)
   rw[List.size_toArray,List.getElem?_toArray,<-hl]at eu'
   obtain⟨u2,e2,r2⟩:=rv.get ex
   rw[eu']at e2
   cases e2
   exact r2
end
abbrev dflt (d:Value):List (Str×Value):=[("default",d)]
noncomputable section
variable {prog:Program}{w:World}{A:Around}{R:Result->Shared->Prop}{J:Addr}{fp wr:List Addr}{n:Nat}{P:Nat->Value->Prop}{St:Nat->Heap->Prop}
noncomputable def Best (P:Nat->Value->Prop)(bt:Nat->Nat->Bool)(j:Nat)(xs:Array Value):Prop:=(j=0/\xs=#[])\/∃i v,j=i+1/\P (argBest bt i) v/\xs=#[v,v]
theorem Zg8 (W:Walks prog w A.in1 J fp wr n P St)(bt:Nat->Nat->Bool)(hcmp:CmpOf prog w A.in1 .Gt P bt)(S:Addr)(hSf:S∉fp)(d:Value) :
  ∀(k j:Nat) (s:Shared) (xs:Array Value) (c:Nat),n-j=k->j<=n->St j s.heap->Best P bt j xs->s.heap.get? S=some {cls:=.type "list",data:=.seq xs c}->
  (∀v g tk,(n=0/\v=d)\/(0<n/\P (argBest bt (n-1)) v)->(∀b o,b∉wr->b≠S->s.heap.get? b=some o->g.get? b=some o)->R (.ok (.ret v)) {s with heap:=g,toks:=tk})->
  codeAny (model prog w) A (.builtin "max.loop" ⟨[.ref J,.none,.ref S],dflt d⟩) R s:=by
 have nw:S∉wr:=λq=>hSf (W.sub _ q)
 have nm:(toString "max"++toString ".loop":String)="max.loop":=by decide
 intro k
 induction k with
 |zero =>
  intro j s xs c hk hj st hb hS hR
  obtain rfl:j=n:=by omega
  refine codeAny_builtin F.entry_max_loop ?_
  rw[Around.under_plainId F.plain_max_loop _]
  change wpAny _ A.in1 (seqItems? (.ref S) >>= _) _ _ s
  refine wpAny_bind (wpAny_seqItems hS rfl ?_)
  change wpAny _ A.in1 (tryCatch (pyNext (.ref J)) _ >>= _) _ _ s
  refine wpAny_bind (wpAny_tryCatch (W.done s _ _ st λg tk kept=>?_))
  have hS1:=kept S _ nw hS
  rcases hb with⟨rfl,rfl⟩ | ⟨i,v,rfl,hv,rfl⟩
  ·change wpAny _ A.in1 (rule _ >>= _) _ _ _
   exact wpAny_bind (wpAny_rule (wpAny_pure (hR d g tk (.inl ⟨rfl,rfl⟩) λb o q _ e=>kept b o q e)))
  ·change wpAny _ A.in1 (updateSeq S (λ_=>#[]) >>= _) _ _ _
   refine wpAny_bind (wpAny_updateSeq hS1 rfl (wpAny_bind (wpAny_letGo (wpAny_pure ?_))))
   exact hR v _ tk (.inr ⟨Nat.succ_pos i,hv⟩) λb o q z e=>(Heap.get?_update_other _ _ (Ne.symm z)).trans (kept b o q e)
 |succ k ih =>
  intro j s xs c hk hj st hb hS hR
  have lt:j<n:=by omega
  refine codeAny_builtin F.entry_max_loop ?_
  rw[Around.under_plainId F.plain_max_loop _]
  change wpAny _ A.in1 (seqItems? (.ref S) >>= _) _ _ s
  refine wpAny_bind (wpAny_seqItems hS rfl ?_)
  change wpAny _ A.in1 (tryCatch (pyNext (.ref J)) _ >>= _) _ _ s
  refine wpAny_bind (wpAny_tryCatch (W.item j s _ _ lt st λu g tk hu st1 kept=>?_))
  have hS1:=kept S _ nw hS
  have up:∀(ys:Array Value),Best P bt (j+1) ys->codeAny (model prog w) A (.builtin "max.loop" ⟨[.ref J,.none,.ref S],dflt d⟩) R {s with heap:=g.update S (Obj.mapSeq λ_=>ys),toks:=tk}:=λys hy=>by
   refine ih (j+1) _ ys _ (by omega) lt (W.frame _ _ _ st1 λb hbf o e=>?_) hy (Heap.get?_update_self _ hS1 rfl) λv g2 tk2 alt kept2=>?_
   ·exact(Heap.get?_update_other _ _ (λq:S=b=>hSf (q▸hbf))).trans e
   ·exact hR v g2 tk2 alt λb o q z e=>kept2 b o q z ((Heap.get?_update_other _ _ (Ne.symm z)).trans (kept b o q e))
  rcases hb with⟨rfl,rfl⟩ | ⟨i,v,rfl,hv,rfl⟩
  ·change wpAny _ A.in1 (updateSeq S (λ_=>#[u,u]) >>= _) _ _ _
   refine wpAny_bind (wpAny_updateSeq hS1 rfl ?_)
   rw[nm]
   exact wpAny_pure ⟨plainId_quiet F.plain_max_loop _,up _ (.inr ⟨0,u,rfl,hu,rfl⟩)⟩
  ·change wpAny _ A.in1 (tryCatch (holding [u,u] (richCompare .Gt u v >>= _)) _ >>= _) _ _ _
   refine wpAny_bind (wpAny_tryCatch (wpAny_holding (wpAny_bind (hcmp (i+1) (argBest bt i) u v _ _ _ hu hv ?_))))
   refine wpAny_bind (wpAny_holding (wpAny_truthy_bool (wpAny_bind (wpAny_letGo (wpAny_pure ?_)))))
   cases q:bt (i+1) (argBest bt i) with
   |true =>
    rw[if_pos rfl]
    refine wpAny_bind (wpAny_updateSeq hS1 rfl (wpAny_bind (wpAny_letGo ?_)))
    rw[nm]
    refine wpAny_pure ⟨plainId_quiet F.plain_max_loop _,up _ (.inr ⟨i+1,u,rfl,?_,rfl⟩)⟩
    rw[argBest,q,if_pos rfl]
    exact hu
   |false =>
    rw[if_neg Bool.false_ne_true]
    refine wpAny_bind (wpAny_letGo ?_)
    rw[nm]
    refine wpAny_pure ⟨plainId_quiet F.plain_max_loop _,ih (i+1+1) _ _ c (by omega) lt st1 (.inr ⟨i+1,v,rfl,?_,rfl⟩) hS1 λv2 g2 tk2 alt kept2=>hR v2 g2 tk2 alt λb o a z e=>kept2 b o a z (kept b o a e)⟩
    rw[argBest,q,if_neg Bool.false_ne_true]
    exact hv
end
noncomputable section
variable {prog:Program}{w:World}{A:Around}{E:Value->Shared->Prop}{s:Shared}
theorem Zg9 (a d:Value):argsOk "max" ⟨[a],dflt d⟩:=by unfold argsOk;kernel_rfl
theorem Z8d {id:String}{b:Builtin}{args:List Value}{kw:List (Str×Value)}{Q:Value->Shared->Prop}(hk:builtinKind id=none)(hp:plainId id=true)(hb:entryFor table id=some b)(ha:argsOk id ⟨args,kw⟩)
  (hc:wpAny (model prog w) A.in1 (b ⟨args,kw⟩) (λfin s'=>match fin with
   |.done f=>(match(Except.ok f:Result) with | .ok (.ret v)=>Q v s' | .ok _=>False | .error e=>E e s')
   |.again c'=>c'.quiet=true/\codeAny (model prog w) A c' (λr s'=>match r with | .ok (.ret v)=>Q v s' | .ok _=>False | .error e=>E e s') s') E s) :
  wpAny (model prog w) A (call (.builtin id) args kw) Q E s:=by
 refine wpAny_call (codeAny_call_builtin hp hb ?_)
 simp only[checkBuiltinCall,hk]
 cases hsig:Manifest.signature? id with
 |none=>exact wpAny_pure hc
 |some sig =>
  have h2:Bind.checkArgs id sig ⟨args,kw⟩=pure ():=by simpa only[argsOk,hsig] using ha
  simp only[h2]
  exact wpAny_pure hc
theorem Zga {x d:Value}{Q:Value->Shared->Prop}
  (h:wpAny (model prog w) A.in1 (pyIter x) (λit s₂=>∃J fp wr n P St bt,it=.ref J/\Walks prog w A.in1 J fp wr n P St/\St 0 s₂.heap/\(∀b∈fp,b<s₂.heap.objs.size)/\CmpOf prog w A.in1 .Gt P bt/\
   ∀v g tk,(n=0/\v=d)\/(0<n/\P (argBest bt (n-1)) v)->(∀b o,b∉wr->s₂.heap.get? b=some o->g.get? b=some o)->Q v {s₂ with heap:=g,toks:=tk}) E s) :
  wpAny (model prog w) A (call (.builtin "max") [x] (dflt d)) Q E s:=by
 have nm:(toString "max"++toString ".loop":String)="max.loop":=by decide
 refine Z8d F.kind_max F.plain_max F.entry_max (Zg9 _ _) ?_
 change wpAny _ A.in1 (Builtin.Builtins.bindParams "max" ["key","default"] 0 ⟨[],dflt d⟩ >>= _) _ _ s
 refine wpAny_bind (wpAny_of_eq (show Builtin.Builtins.bindParams "max" ["key","default"] 0 ⟨[],dflt d⟩=pure [none,some d] from rfl) (wpAny_bind (wpAny_pure ?_)))
 refine wpAny_bind (wpAny_mono h (λit s₂ q=>?_) λ_ _ e=>e)
 obtain⟨J,fp,wr,n,P,St,bt,rfl,W,st,hfp,hcmp,hQ⟩:=q
 refine wpAny_bind (wpAny_newObj_type ?_)
 have hSf:s₂.heap.objs.size∉fp:=λm=>Nat.lt_irrefl _ (hfp _ m)
 rw[nm]
 refine wpAny_pure ⟨plainId_quiet F.plain_max_loop _,Zg8 W bt hcmp s₂.heap.objs.size hSf d n 0 _ #[] 0 rfl (Nat.zero_le _) (W.frame _ _ _ st λb _ o e=>Heap.get?_push_of_some _ e) (.inl ⟨rfl,rfl⟩) (Heap.get?_push_size _ rfl) λv g tk alt kept=>?_⟩
 exact hQ v g tk alt λb o q e=>kept b o q (Nat.ne_of_lt (Heap.lt_size e)) (Heap.get?_push_of_some _ e)
theorem Zhw {l:Addr}{its:List Value}{ns:List Int}{d:Int}{td:Tok}{Q:Value->Shared->Prop}(hh:A.handled=none)(hl:s.heap.IsList l its.toArray)(hi:IntsAre its ns)
  (h:∀g tk M t',(∀b o,s.heap.get? b=some o->g.get? b=some o)->(ns=[]/\M=d)\/(M∈ns/\∀a,a∈ns->a<=M)->Q (.int M t') {s with heap:=g,toks:=tk}):wpAny (model prog w) A (call (.builtin "max") [.ref l] (dflt (.int d td))) Q E s:=by
 obtain⟨xs,e⟩:=hi.allInts.items
 have hn:numsOf (intItems xs).toList=ns:=by rw[<-e];exact hi.numsOf
 rw[nums_intItems]at hn
 subst hn
 rw[e]at hl
 refine Zga (iter_intList hl λs₂ e st hfp hlI=>?_)
 subst e
 refine⟨_,_,_,_,_,_,_,rfl,Walks.list (A:=A.in1) hh _ l hlI (intItems xs),st,hfp,CmpOf.ints_gt (numAt xs) (λ_ _=>intItems_at),λv g tk alt kept=>?_⟩
 have sz:(intItems xs).size=xs.size:=by simp[intItems]
 rw[sz]at alt
 rcases alt with⟨z,rfl⟩ | ⟨pos,hP⟩
 ·exact h g tk d td (old_kept kept) (.inl ⟨by rw[Array.size_eq_zero_iff.mp z];rfl,rfl⟩)
 ·obtain⟨t,rfl⟩:=intItems_at hP
  obtain⟨h1,h2⟩:=argBest_gt (numAt xs) (xs.size-1)
  refine h g tk _ t (old_kept kept) (.inr ⟨?_,λa ha=>?_⟩)
  ·rw[numAt_eq];exact PySem.getD_mem (by rw[length_map,Array.length_toList];omega)
  ·obtain⟨j,hj,rfl⟩:=mem_getD ha
   rw[length_map,Array.length_toList]at hj
   rw[<-numAt_eq];exact h2 j (by omega)
end
noncomputable section
variable {X:Cx}
noncomputable def Zmb (K:W.Frag)(ta:TA)(td:TE):TE:=λσ H Q=>ta σ H λvs H1=>td σ H1 λy H2=>∃(a:Addr) (ns:List Int) (d:Int),vs=[.ref a]/\y=.int d/\SqL K H2 a (ns.map V.int)/\∀m,(ns=[]/\m=d)\/(m∈ns/\∀z,z∈ns->z<=m)->Q (.int m) H2
theorem Zjz {e de:Expr}{ta:TA}{td:TE}{p kp pos:Pos}(hc:X.calm=true)(hg:Gl X "max")(hm:X.mg "max"=none)(ha:PA X [e] ta)(hd:PE X de td)
  (he:backTo pos (starEach [e] X.env)=(false,eval e X.env)::backTo pos (starEach [] X.env):=by rfl) (hpl:(backTo pos (starEach [e] X.env)).any (·.1)=false:=by rfl) :
  PE X (.Call (.Name "max" p) [e] [⟨some "default",de,kp⟩] pos) (Zmb X.K ta td):=by
 intro pins s σ H Q I h
 refine wpAny_Call_Name_kw (Td I hg hm Zbj ?_)
 refine callWith_kw (thn (ha pos pins s σ H _ I h) λus s1 ⟨vs,H1,I1,r1,q1⟩=>kws_cons (thn (hd pins s1 σ H1 _ I1 q1) λu s2 ⟨y,H2,I2,ry,a,ns,d,ev,ey,hs,q2⟩=>kws_nil ?_)) he hpl
 subst ev ey
 obtain⟨t,rfl⟩:=ry
 rw[Vals.ref1 r1]
 obtain⟨its,rv,hl,_⟩:=I2.list hs
 exact Zhw (I2.ok.hd hc) hl.isList rv.ints λg tk m t' kept alt=>⟨.int m,H2,I2.kept kept,⟨_,rfl⟩,q2 m alt⟩
end
end Sl
namespace Sl
open Vawctb
noncomputable def uniq (l:List Nat):List Nat:=l.foldl (λa v=>if a.contains v then a else a++[v]) []
noncomputable def addN (l:List Seen)(s:Seen):List Seen:=if l.any (λz=>z.at_==s.at_) then l else l++[s]
noncomputable def addAll (l zs:List Seen):List Seen:=zs.foldl addN l
theorem Zgb (l:List Seen)(s:Seen):l.length<=(addN l s).length:=by
 unfold addN
 split
 ·exact Nat.le_refl _
 ·rw[length_append]
  omega
theorem Z0t:∀(zs l:List Seen),l.length<=(addAll l zs).length
 |[],l=>Nat.le_refl _
 |z::zs,l=>Nat.le_trans (Zgb l z) (Z0t zs (addN l z))
theorem Zgc (zs:List Seen):zs.foldl (λ(a:Option (List Seen)) z=>a.bind λq=>addSeen q z) none=none:=by
 induction zs with
 |nil=>rfl
 |cons z zs ih=>exact ih
theorem Z0u:∀(zs l:List Seen),l.length<=400->zs.foldl (λ(a:Option (List Seen)) z=>a.bind λq=>addSeen q z) (some l)=if(addAll l zs).length<=400 then some (addAll l zs) else none
 |[],l,h=>by
  show some l=if l.length<=400 then some l else none
  rw[if_pos h]
 |z::zs,l,h=>by
  show zs.foldl (λ(a:Option (List Seen)) z=>a.bind λq=>addSeen q z) (addSeen l z)=if(addAll (addN l z) zs).length<=400 then some (addAll (addN l z) zs) else none
  have ea:addSeen l z=if l.any (λy=>y.at_==z.at_) then some l else if MOMENTS<=l.length then none else some (l++[z]):=rfl
  rw[ea]
  by_cases e:(l.any λy=>y.at_==z.at_)=true
  ·rw[if_pos e]
   have e2:addN l z=l:=by unfold addN;rw[if_pos e]
   rw[e2]
   exact Z0u zs l h
  ·have e2:addN l z=l++[z]:=by unfold addN;rw[if_neg e]
   rw[if_neg e,e2]
   by_cases f:MOMENTS<=l.length
   ·rw[if_pos f,Zgc,if_neg]
    have:=Z0t zs (l++[z])
    rw[length_append]at this
    have f':400<=l.length:=f
    show ¬_
    simp only[length_cons,length_nil]at this
    omega
   ·rw[if_neg f]
    have f':¬400<=l.length:=f
    exact Z0u zs (l++[z]) (by rw[length_append,length_singleton];omega)
theorem Ws (l a b:List Seen):addAll l (a++b)=addAll (addAll l a) b:=by unfold addAll;rw[List.foldl_append]
theorem Zhx {l:List Seen}{s:Seen}{m:Moment}(h:l.any (λz=>z.at_==m)=true):(addN l s).any (λz=>z.at_==m)=true:=by
 unfold addN
 split
 ·exact h
 ·rw[List.any_append,h]
  rfl
theorem Z3i {m:Moment}:∀(zs:List Seen) {l:List Seen},l.any (λz=>z.at_==m)=true->(addAll l zs).any (λz=>z.at_==m)=true
 |[],l,h=>h
 |z::zs,l,h=>Z3i zs (l:=addN l z) (Zhx h)
theorem Zhy (l:List Seen)(s:Seen):(addN l s).any (λz=>z.at_==s.at_)=true:=by
 unfold addN
 split
 ·assumption
 ·rw[List.any_append]
  simp
theorem Nd:∀(zs:List Seen) (l:List Seen) {s:Seen},s∈zs->(addAll l zs).any (λz=>z.at_==s.at_)=true
 |z::zs,l,s,h=>by
  rcases List.mem_cons.mp h with rfl | h
  ·exact Z3i zs (Zhy l s)
  ·exact Nd zs (addN l z) h
theorem Zbz {l:List Seen}{s:Seen}(h:l.any (λz=>z.at_==s.at_)=true):addN l s=l:=by unfold addN;rw[if_pos h]
theorem Ur {α:Type}{p:List α->Prop}(nil:p [])(snoc:∀l a,p l->p (l++[a]))(l:List α):p l:=by
 have h:∀l:List α,p l.reverse:=λl=>by
  induction l with
  |nil=>exact nil
  |cons a l ih =>
   rw[List.reverse_cons]
   exact snoc _ a ih
 have:=h l.reverse
 rwa [List.reverse_reverse]at this
theorem Px (l:List Nat)(v:Nat):uniq (l++[v])=if(uniq l).contains v then uniq l else uniq l++[v]:=by unfold uniq;rw[List.foldl_append];rfl
theorem Py {v:Nat}(l:List Nat):v∈uniq l↔v∈l:=by
 refine Ur (p:=λl=>v∈uniq l↔v∈l) Iff.rfl (λl a ih=>?_) l
 show v∈uniq (l++[a])↔v∈l++[a]
 ·skip
  rw[Px,mem_append,mem_singleton]
  split
  ·rename_i h
   rw[ih]
   refine⟨.inl,λq=>?_⟩
   rcases q with q | q
   ·exact q
   ·subst q
    exact ih.mp (by simpa using h)
  ·rw[mem_append,mem_singleton,ih]
theorem Zae (f:Nat->Seen)(l:List Seen)(vs:List Nat):addAll l (vs.map f)=addAll l ((uniq vs).map f):=by
 refine Ur (p:=λvs=>addAll l (vs.map f)=addAll l ((uniq vs).map f)) rfl (λvs v ih=>?_) vs
 ·skip
  rw[map_append,Ws,ih,Px]
  split
  ·rename_i h
   have h':v∈uniq vs:=by simpa using h
   exact Zbz (Nd _ _ (mem_map.mpr ⟨v,h',rfl⟩))
  ·rw[map_append,Ws]
noncomputable def Zx (sh:Shape)(g:Graph)(watch:Option Nat)(s:Seen)(x:Option Nat):List Seen:=(uniq (nextOf g s.at_.node)).map λv =>
 {at_:={node:=v,stood:=stoodThen watch s.at_,cache:=touchMaybe sh s.at_.cache x},way:=s.way++[(s.at_.node,mark x)]}
noncomputable def Ys (sh:Shape)(g:Graph)(watch:Option Nat)(l:List Seen)(s:Seen)(xs:List (Option Nat)):List Seen:=xs.foldl (λl x=>addAll l (Zx sh g watch s x)) l
theorem Nf (sh:Shape)(g:Graph)(watch:Option Nat)(s:Seen):∀(xs:List (Option Nat)) (l:List Seen),
  addAll l (xs.flatMap λx=>(nextOf g s.at_.node).map λv=>{at_:={node:=v,stood:=stoodThen watch s.at_,cache:=touchMaybe sh s.at_.cache x},way:=s.way++[(s.at_.node,mark x)]})=Ys sh g watch l s xs
 |[],l=>rfl
 |x::xs,l=>by
  rw[List.flatMap_cons,Ws,Zae]
  exact Nf sh g watch s xs _
theorem Zaf {sh:Shape}{g:Graph}{watch:Option Nat}{n i:Nat}{l:List Seen}{s:Seen}(hs:l[i]?=some s)(hl:l.length<=400) :
  goThrough sh g watch (n+1) i l=if(Ys sh g watch l s (touches g s.at_.node)).length<=400 then goThrough sh g watch n (i+1) (Ys sh g watch l s (touches g s.at_.node)) else none:=by
 show(match l[i]? with
  |none=>some l
  |some s=>((behindMoment sh g watch s).foldl (λ(a:Option (List Seen)) z=>a.bind λq=>addSeen q z) (some l)).bind λq=>goThrough sh g watch n (i+1) q)=_
 rw[hs]
 show((behindMoment sh g watch s).foldl (λ(a:Option (List Seen)) z=>a.bind λq=>addSeen q z) (some l)).bind _=_
 rw[Z0u _ _ hl]
 have e:addAll l (behindMoment sh g watch s)=Ys sh g watch l s (touches g s.at_.node):=Nf sh g watch s _ l
 rw[e]
 split <;> rfl
theorem Zgd {sh:Shape}{g:Graph}{watch:Option Nat}{n i:Nat}{l:List Seen}(hs:l[i]?=none):goThrough sh g watch n i l=some l:=by
 cases n with
 |zero=>rfl
 |succ n =>
  show(match l[i]? with
   |none=>some l
   |some s=>_)=_
  rw[hs]
theorem Z3j (sh:Shape)(g:Graph)(watch:Option Nat)(s:Seen):∀(xs:List (Option Nat)) (l:List Seen),l.length<=(Ys sh g watch l s xs).length
 |[],l=>Nat.le_refl _
 |x::xs,l=>Nat.le_trans (Z0t _ l) (Z3j sh g watch s xs _)
structure SGood (sh:Shape)(g:Graph)(l:List Seen):Prop where
 ok:∀(i:Nat) (s:Seen),l[i]?=some s->s.at_.node<g.nodes.length/\CaOk sh s.at_.cache/\s.way.length<=i
 nd:(l.map (·.at_)).Nodup
theorem Zis {l:List Seen}{m:Moment}:l.any (λz=>z.at_==m)=true↔m∈l.map (·.at_):=by
 rw[List.any_eq_true,mem_map]
 constructor
 ·rintro⟨z,h1,h2⟩
  exact⟨z,h1,eq_of_beq h2⟩
 ·rintro⟨z,h1,h2⟩
  exact⟨z,h1,by rw[h2];exact beq_self_eq_true m⟩
theorem SGood.add {sh:Shape}{g:Graph}{l:List Seen}{s:Seen}(h:SGood sh g l)(h1:s.at_.node<g.nodes.length)(h2:CaOk sh s.at_.cache)(h3:s.way.length<=l.length):SGood sh g (addN l s):=by
 unfold addN
 by_cases e:(l.any λz=>z.at_==s.at_)=true
 ·rw[if_pos e]
  exact h
 ·rw[if_neg e]
  refine⟨λi z ez=>?_,?_⟩
  ·by_cases q:i<l.length
   ·rw[getElem?_append_left q]at ez
    exact h.ok i z ez
   ·rw[getElem?_append_right (by omega)]at ez
    have e0:i-l.length=0:=by
     have:=(gse.mp ez).1
     simp only[length_singleton]at this
     omega
    rw[e0]at ez
    cases ez
    exact⟨h1,h2,by omega⟩
  ·rw[map_append,List.nodup_append]
   refine⟨h.nd,nodup_cons.mpr ⟨not_mem_nil,nodup_nil⟩,λa ha b hb q=>?_⟩
   have hb':b=s.at_:=by simpa using hb
   rw[hb']at q
   rw[q]at ha
   exact e (Zis.mpr ha)
theorem SGood.addAll {sh:Shape}{g:Graph}:∀(zs:List Seen) {l:List Seen},SGood sh g l->(∀s∈zs,s.at_.node<g.nodes.length/\CaOk sh s.at_.cache/\s.way.length<=l.length)->SGood sh g (addAll l zs)
 |[],l,h,_=>h
 |z::zs,l,h,hz=>by
  obtain⟨a,b,c⟩:=hz z mem_cons_self
  refine SGood.addAll zs (h.add a b c) λs hs=>?_
  obtain⟨a,b,c⟩:=hz s (mem_cons_of_mem _ hs)
  exact⟨a,b,Nat.le_trans c (Zgb l z)⟩
theorem Zd7 {g:Graph}(h:GrOk g){v x:Nat}(hx:x∈linesAt g v):x<32:=by
 unfold linesAt at hx
 rw[getD_eq_getElem?_getD]at hx
 cases e:g.nodes[v]? with
 |none =>
  rw[e]at hx
  exact nomatch hx
 |some l =>
  rw[e]at hx
  exact(h.lines l (mem_of_getElem? e)).2 x hx
theorem Z5j {sh:Shape}{g:Graph}(hp:0<sh.sets)(gok:GrOk g){v:Nat}{c:Vawcta.Cache}(hc:CaOk sh c){x:Option Nat}(hx:x∈touches g v):CaOk sh (touchMaybe sh c x):=by
 cases x with
 |none=>exact hc
 |some n =>
  refine Nu hc hp (Zd7 gok (v:=v) ?_)
  unfold touches at hx
  split at hx
  ·simp at hx
  ·simpa using hx
theorem Zk0 {g:Graph}(gok:GrOk g){v u:Nat}(h:u∈nextOf g v):u<g.nodes.length:=by
 unfold nextOf at h
 obtain⟨e,he,rfl⟩:=mem_map.mp h
 exact(gok.edges e (List.mem_filter.mp he).1).2
theorem Zag {sh:Shape}{g:Graph}{wt:Option Nat}(hp:0<sh.sets)(gok:GrOk g){l:List Seen}{i:Nat}{s:Seen}(h:SGood sh g l)(hs:l[i]?=some s){x:Option Nat}(hx:x∈touches g s.at_.node):∀z∈Zx sh g wt s x,z.at_.node<g.nodes.length/\CaOk sh z.at_.cache/\z.way.length<=l.length:=by
 intro z hz
 obtain⟨v,hv,rfl⟩:=mem_map.mp hz
 obtain⟨_,h2,h3⟩:=h.ok i s hs
 have hi:=(gse.mp hs).1
 refine⟨Zk0 gok ((Py _).mp hv),Z5j hp gok h2 hx,?_⟩
 show(s.way++[_]).length<=_
 rw[length_append,length_singleton]
 omega
theorem Zhz (l:List Seen)(s:Seen):∃m,addN l s=l++m:=by
 unfold addN
 split
 ·exact⟨[],(append_nil l).symm⟩
 ·exact⟨[s],rfl⟩
theorem Ng:∀(zs l:List Seen),∃m,addAll l zs=l++m
 |[],l=>⟨[],(append_nil l).symm⟩
 |z::zs,l=>by
  obtain⟨m,e⟩:=Zhz l z
  obtain⟨m',e'⟩:=Ng zs (addN l z)
  refine⟨m++m',?_⟩
  show addAll (addN l z) zs=_
  rw[e',e,append_assoc]
theorem Z0v (sh:Shape)(g:Graph)(wt:Option Nat)(s:Seen):∀(xs:List (Option Nat)) (l:List Seen),∃m,Ys sh g wt l s xs=l++m
 |[],l=>⟨[],(append_nil l).symm⟩
 |x::xs,l=>by
  obtain⟨m,e⟩:=Ng (Zx sh g wt s x) l
  obtain⟨m',e'⟩:=Z0v sh g wt s xs (addAll l (Zx sh g wt s x))
  refine⟨m++m',?_⟩
  show Ys sh g wt (addAll l (Zx sh g wt s x)) s xs=_
  rw[e',e,append_assoc]
theorem SGood.step {sh:Shape}{g:Graph}{wt:Option Nat}(hp:0<sh.sets)(gok:GrOk g){i:Nat}{s:Seen}:∀(xs:List (Option Nat)) {l:List Seen},SGood sh g l->l[i]?=some s->(∀x∈xs,x∈touches g s.at_.node)->SGood sh g (Ys sh g wt l s xs)
 |[],l,h,_,_=>h
 |x::xs,l,h,hs,hx=>by
  refine SGood.step (i:=i) hp gok xs (h.addAll _ (Zag hp gok h hs (hx x mem_cons_self))) ?_ λy hy=>hx y (mem_cons_of_mem _ hy)
  obtain⟨m,e⟩:=Ng (Zx sh g wt s x) l
  show(Sl.addAll l (Zx sh g wt s x))[i]?=some s
  rw[e,getElem?_append_left (gse.mp hs).1]
  exact hs
noncomputable def Zc0 (sh:Shape)(g:Graph)(wt:Option Nat)(l:List Seen)(i:Nat):Prop:=∀(j:Nat) (s:Seen),j<i->l[j]?=some s->∀z∈behindMoment sh g wt s,z.at_∈l.map (·.at_)
theorem Zah (sh:Shape)(g:Graph)(wt:Option Nat)(l:List Seen)(s:Seen){z:Seen}(hz:z∈behindMoment sh g wt s):z.at_∈(Ys sh g wt l s (touches g s.at_.node)).map (·.at_):=by
 rw[<-Nf]
 exact Zis.mp (Nd _ _ hz)
structure AllOk (sh:Shape)(g:Graph)(wt:Option Nat)(l:List Seen):Prop where
 good:SGood sh g l
 few:l.length<=400
 closed:∀s∈l,∀z∈behindMoment sh g wt s,z.at_∈l.map (·.at_)
theorem Z3k {sh:Shape}{g:Graph}{wt:Option Nat}{l:List Seen}{i:Nat}(h:Zc0 sh g wt l i)(hi:l.length<=i):∀s∈l,∀z∈behindMoment sh g wt s,z.at_∈l.map (·.at_):=λs hs=>by
 obtain⟨j,hj⟩:=mem_iff_getElem?.mp hs
 have:=(gse.mp hj).1
 exact h j s (by omega) hj
theorem Zlb {sh:Shape}{g:Graph}{wt:Option Nat}(hp:0<sh.sets)(gok:GrOk g):∀(n i:Nat) (l l':List Seen),401<=n+i->SGood sh g l->l.length<=400->Zc0 sh g wt l i->goThrough sh g wt n i l=some l'->AllOk sh g wt l'/\∃m,l'=l++m
 |0,i,l,l',hn,hg,hl,hc,e=>by
  cases e
  exact⟨⟨hg,hl,Z3k hc (by omega)⟩,[],(append_nil l).symm⟩
 |n+1,i,l,l',hn,hg,hl,hc,e=>by
  cases q:l[i]? with
  |none =>
   rw[Zgd q]at e
   cases e
   exact⟨⟨hg,hl,Z3k hc (List.getElem?_eq_none_iff.mp q)⟩,[],(append_nil l).symm⟩
  |some s =>
   rw[Zaf q hl]at e
   by_cases z:(Ys sh g wt l s (touches g s.at_.node)).length<=400
   ·rw[if_pos z]at e
    obtain⟨m,em⟩:=Z0v sh g wt s (touches g s.at_.node) l
    have hi:=(gse.mp q).1
    obtain⟨h1,m',h2⟩:=Zlb hp gok n (i+1) _ l' (by omega) (SGood.step hp gok _ hg q λ_ h=>h) z (λj t hj ht y hy=>by
     by_cases u:j<i
     ·have ht':l[j]?=some t:=by
       rw[em,getElem?_append_left (by omega)]at ht
       exact ht
      have:=hc j t u ht' y hy
      rw[em,map_append]
      exact List.mem_append_left _ this
     ·have uj:j=i:=by omega
      subst uj
      rw[em,getElem?_append_left (by omega),q]at ht
      cases ht
      exact Zah sh g wt l s hy) e
    exact⟨h1,m++m',by rw[h2,em,append_assoc]⟩
   ·rw[if_neg z]at e
    cases e
theorem Wv {sh:Shape}{g:Graph}{wt:Option Nat}{c:Vawcta.Cache}(hp:0<sh.sets)(gok:GrOk g)(hc:CaOk sh c){l:List Seen}(h:moments sh g wt c=some l):AllOk sh g wt l/\∃m,l={at_:={node:=0,stood:=false,cache:=c},way:=[]}::m:=by
 unfold moments at h
 have g0:SGood sh g [{at_:={node:=0,stood:=false,cache:=c},way:=[]}]:=by
  refine⟨λi s e=>?_,nodup_cons.mpr ⟨not_mem_nil,nodup_nil⟩⟩
  cases i with
  |zero =>
   cases e
   exact⟨gok.pos,hc,Nat.le_refl _⟩
  |succ i=>simp at e
 obtain⟨h1,m,h2⟩:=Zlb hp gok 401 0 _ l (Nat.le_refl _) g0 (Nat.le_add_left 1 399) (λj s hj=>absurd hj (Nat.not_lt_zero j)) h
 exact⟨h1,m,h2⟩
noncomputable def maxL (l:List Nat):Nat:=l.foldl max 0
theorem Qg {α:Type}(f:α->Nat)(B:Nat):∀(l:List α) (a:Nat),l.foldl (λm z=>max m (f z)) a<=B↔a<=B/\∀z∈l,f z<=B
 |[],a=>by simp
 |z::l,a=>by
  rw[List.foldl_cons,Qg f B l]
  constructor
  ·rintro⟨h1,h2⟩
   refine⟨by omega,λy hy=>?_⟩
   rcases List.mem_cons.mp hy with rfl | hy
   ·omega
   ·exact h2 y hy
  ·rintro⟨h1,h2⟩
   have:=h2 z mem_cons_self
   exact⟨by omega,λy hy=>h2 y (mem_cons_of_mem _ hy)⟩
theorem Zai (B:Nat)(l:List Nat):maxL l<=B↔∀y∈l,y<=B:=by
 have h:=Qg (λy:Nat=>y) B l 0
 constructor
 ·intro q
  exact(h.mp q).2
 ·intro q
  exact h.mpr ⟨Nat.zero_le _,q⟩
theorem Zge {l:List Nat}{y:Nat}(h:y∈l):y<=maxL l:=(Zai _ l).mp (Nat.le_refl _) y h
theorem Qh (a B:Nat)(l:List Nat):a+maxL l<=B↔a<=B/\∀y∈l,a+y<=B:=by
 constructor
 ·intro h
  refine⟨by omega,λy hy=>?_⟩
  have:=Zge hy
  omega
 ·rintro⟨h1,h2⟩
  have h3:maxL l<=B-a:=(Zai _ l).mpr λy hy=>by
   have:=h2 y hy
   omega
  omega
noncomputable def Zd8 (sh:Shape)(m:Moment)(x:Option Nat)(v:Nat):Moment:={node:=v,stood:=m.stood,cache:=touchMaybe sh m.cache x}
noncomputable def best (sh:Shape)(g:Graph):Nat->Moment->Nat
 |0,_=>0
 |n+1,m=>maxL ((touches g m.node).map λx=>missOf sh m.cache x+maxL ((uniq (nextOf g m.node)).map λv=>best sh g n (Zd8 sh m x v)))
theorem Zaj (g:Graph)(v:Nat):∃x,x∈touches g v:=by
 unfold touches
 split
 ·exact⟨none,mem_singleton.mpr rfl⟩
 ·rename_i h
  cases q:linesAt g v with
  |nil =>
   rw[q]at h
   exact absurd rfl h
  |cons a l=>exact⟨some a,by rw[List.map_cons];exact mem_cons_self⟩
theorem Z0w (sh:Shape)(g:Graph)(n a B:Nat)(m:Moment):a+best sh g (n+1) m<=B↔∀x∈touches g m.node,a+missOf sh m.cache x<=B/\∀v∈nextOf g m.node,a+missOf sh m.cache x+best sh g n (Zd8 sh m x v)<=B:=by
 show a+maxL _<=B↔_
 rw[Qh]
 constructor
 ·rintro⟨_,h⟩ x hx
  have h1:=h _ (mem_map.mpr ⟨x,hx,rfl⟩)
  rw[<-Nat.add_assoc,Qh]at h1
  exact⟨h1.1,λv hv=>h1.2 _ (mem_map.mpr ⟨v,(Py _).mpr hv,rfl⟩)⟩
 ·intro h
  obtain⟨x0,hx0⟩:=Zaj g m.node
  refine⟨by have:=(h x0 hx0).1;omega,λy hy=>?_⟩
  obtain⟨x,hx,rfl⟩:=mem_map.mp hy
  rw[<-Nat.add_assoc,Qh]
  refine⟨(h x hx).1,λz hz=>?_⟩
  obtain⟨v,hv,rfl⟩:=mem_map.mp hz
  exact(h x hx).2 v ((Py _).mp hv)
theorem Z0x (sh:Shape)(g:Graph)(B:Nat):∀(l:Level) (a:Nat),l.foldl (λm z=>(touches g z.1.node).foldl (λk x=>max k (z.2+missOf sh z.1.cache x)) m) a<=B↔a<=B/\∀z∈l,∀x∈touches g z.1.node,z.2+missOf sh z.1.cache x<=B
 |[],a=>by simp
 |z::l,a=>by
  rw[List.foldl_cons,Z0x sh g B l,Qg (λx=>z.2+missOf sh z.1.cache x)]
  constructor
  ·rintro⟨⟨h1,h2⟩,h3⟩
   refine⟨h1,λy hy=>?_⟩
   rcases List.mem_cons.mp hy with rfl | hy
   ·exact h2
   ·exact h3 y hy
  ·rintro⟨h1,h2⟩
   exact⟨⟨h1,h2 z mem_cons_self⟩,λy hy=>h2 y (mem_cons_of_mem _ hy)⟩
theorem Zak (f:Moment->Nat)(B:Nat)(q:Level)(m:Moment)(k:Nat):(∀z∈keepMost q m k,z.2+f z.1<=B)↔(∀z∈q,z.2+f z.1<=B)/\k+f m<=B:=by
 unfold keepMost
 by_cases e:(q.any λz=>z.1==m)=true
 ·rw[if_pos e]
  obtain⟨z0,h0,e0⟩:=List.any_eq_true.mp e
  have e0':z0.1=m:=eq_of_beq e0
  constructor
  ·intro h
   refine⟨λz hz=>?_,?_⟩
   ·have:=h _ (mem_map.mpr ⟨z,hz,rfl⟩)
    by_cases y:(z.1==m)=true
    ·rw[if_pos y]at this
     have y':z.1=m:=eq_of_beq y
     rw[y']
     have:max z.2 k+f m<=B:=this
     omega
    ·rw[if_neg y]at this
     exact this
   ·have:=h _ (mem_map.mpr ⟨z0,h0,rfl⟩)
    rw[if_pos e0]at this
    have:max z0.2 k+f m<=B:=this
    omega
  ·rintro⟨h1,h2⟩ z hz
   obtain⟨y,hy,rfl⟩:=mem_map.mp hz
   have h3:=h1 y hy
   by_cases u:(y.1==m)=true
   ·rw[if_pos u]
    have u':y.1=m:=eq_of_beq u
    rw[u']at h3
    show max y.2 k+f m<=B
    omega
   ·rw[if_neg u]
    exact h3
 ·rw[if_neg e]
  constructor
  ·intro h
   exact⟨λz hz=>h z (List.mem_append_left _ hz),h (m,k) (List.mem_append_right _ (mem_singleton.mpr rfl))⟩
  ·rintro⟨h1,h2⟩ z hz
   rcases mem_append.mp hz with hz | hz
   ·exact h1 z hz
   ·rw[mem_singleton.mp hz]
    exact h2
theorem Mc {α:Type}(f:Moment->Nat)(B:Nat)(mk:α->Moment)(k:Nat):∀(vs:List α) (q:Level),(∀z∈vs.foldl (λq v=>keepMost q (mk v) k) q,z.2+f z.1<=B)↔(∀z∈q,z.2+f z.1<=B)/\∀v∈vs,k+f (mk v)<=B
 |[],q=>by simp
 |v::vs,q=>by
  rw[List.foldl_cons,Mc f B mk k vs,Zak]
  constructor
  ·rintro⟨⟨h1,h2⟩,h3⟩
   refine⟨h1,λu hu=>?_⟩
   rcases List.mem_cons.mp hu with rfl | hu
   ·exact h2
   ·exact h3 u hu
  ·rintro⟨h1,h2⟩
   exact⟨⟨h1,h2 v mem_cons_self⟩,λu hu=>h2 u (mem_cons_of_mem _ hu)⟩
theorem Pz (sh:Shape)(g:Graph)(f:Moment->Nat)(B:Nat)(z:Moment×Nat):∀(xs:List (Option Nat)) (b:Level),(∀y∈xs.foldl (λb x=>(nextOf g z.1.node).foldl (λq v=>keepMost q {node:=v,stood:=false,cache:=touchMaybe sh z.1.cache x} (z.2+missOf sh z.1.cache x)) b) b,y.2+f y.1<=B)↔
  (∀y∈b,y.2+f y.1<=B)/\∀x∈xs,∀v∈nextOf g z.1.node,z.2+missOf sh z.1.cache x+f {node:=v,stood:=false,cache:=touchMaybe sh z.1.cache x}<=B
 |[],b=>by simp
 |x::xs,b=>by
  rw[List.foldl_cons,Pz sh g f B z xs,Mc f B (λv=>{node:=v,stood:=false,cache:=touchMaybe sh z.1.cache x})]
  constructor
  ·rintro⟨⟨h1,h2⟩,h3⟩
   refine⟨h1,λu hu=>?_⟩
   rcases List.mem_cons.mp hu with rfl | hu
   ·exact h2
   ·exact h3 u hu
  ·rintro⟨h1,h2⟩
   exact⟨⟨h1,h2 x mem_cons_self⟩,λu hu=>h2 u (mem_cons_of_mem _ hu)⟩
theorem Md (sh:Shape)(g:Graph)(f:Moment->Nat)(B:Nat):∀(l a:Level),(∀y∈l.foldl (λa z=>(touches g z.1.node).foldl (λb x=>(nextOf g z.1.node).foldl (λq v=>keepMost q {node:=v,stood:=false,cache:=touchMaybe sh z.1.cache x} (z.2+missOf sh z.1.cache x)) b) a) a,y.2+f y.1<=B)↔
  (∀y∈a,y.2+f y.1<=B)/\∀z∈l,∀x∈touches g z.1.node,∀v∈nextOf g z.1.node,z.2+missOf sh z.1.cache x+f {node:=v,stood:=false,cache:=touchMaybe sh z.1.cache x}<=B
 |[],a=>by simp
 |z::l,a=>by
  rw[List.foldl_cons,Md sh g f B l,Pz]
  constructor
  ·rintro⟨⟨h1,h2⟩,h3⟩
   refine⟨h1,λu hu=>?_⟩
   rcases List.mem_cons.mp hu with rfl | hu
   ·exact h2
   ·exact h3 u hu
  ·rintro⟨h1,h2⟩
   exact⟨⟨h1,h2 z mem_cons_self⟩,λu hu=>h2 u (mem_cons_of_mem _ hu)⟩
noncomputable def Z5k (l:Level):Prop:=∀z∈l,z.1.stood=false
theorem Zd9 {q:Level}{m:Moment}{k:Nat}(h:Z5k q)(hm:m.stood=false):Z5k (keepMost q m k):=by
 unfold keepMost
 split
 ·intro z hz
  obtain⟨y,hy,rfl⟩:=mem_map.mp hz
  split
  ·exact hm
  ·exact h y hy
 ·intro z hz
  rcases mem_append.mp hz with hz | hz
  ·exact h z hz
  ·rw[mem_singleton.mp hz]
   exact hm
theorem Sw {α:Type}{st:Level->α->Level}(hs:∀q a,Z5k q->Z5k (st q a)):∀(l:List α) {q:Level},Z5k q->Z5k (l.foldl st q)
 |[],_,h=>h
 |a::l,q,h=>Sw hs l (hs q a h)
theorem Zda (sh:Shape)(g:Graph)(l:Level):Z5k (nextLevel sh g l):=by
 unfold nextLevel
 exact Sw (λa z ha=>Sw (λb x hb=>Sw (λq v hq=>Zd9 hq rfl) _ hb) _ ha) l λz hz=>nomatch hz
theorem Z8e (sh:Shape)(g:Graph)(B:Nat):∀(n:Nat) (l:Level),Z5k l->(mostIn sh g (n+1) l<=B↔∀z∈l,z.2+best sh g (n+1) z.1<=B)
 |0,l,_=>by
  show max (mostOf sh g l) 0<=B↔_
  have h:=Z0x sh g B l 0
  have e:max (mostOf sh g l) 0<=B↔mostOf sh g l<=B:=by omega
  rw[e]
  constructor
  ·intro q z hz
   rw[Z0w]
   exact λx hx=>⟨(h.mp q).2 z hz x hx,λv _=>(h.mp q).2 z hz x hx⟩
  ·intro q
   refine h.mpr ⟨Nat.zero_le _,λz hz x hx=>?_⟩
   exact(((Z0w sh g 0 z.2 B z.1).mp (q z hz)) x hx).1
 |n+1,l,hl=>by
  show max (mostOf sh g l) (mostIn sh g (n+1) (nextLevel sh g l))<=B↔_
  have h:=Z0x sh g B l 0
  have e:max (mostOf sh g l) (mostIn sh g (n+1) (nextLevel sh g l))<=B↔mostOf sh g l<=B/\mostIn sh g (n+1) (nextLevel sh g l)<=B:=by omega
  rw[e,Z8e sh g B n _ (Zda sh g l)]
  have h2:=Md sh g (best sh g (n+1)) B l []
  constructor
  ·rintro⟨q1,q2⟩ z hz
   rw[Z0w]
   refine λx hx=>⟨(h.mp q1).2 z hz x hx,λv hv=>?_⟩
   have:=(h2.mp q2).2 z hz x hx v hv
   unfold Zd8
   rw[hl z hz]
   exact this
  ·intro q
   refine⟨h.mpr ⟨Nat.zero_le _,λz hz x hx=>(((Z0w sh g (n+1) z.2 B z.1).mp (q z hz)) x hx).1⟩,h2.mpr ⟨λy hy=>(nomatch hy),λz hz x hx v hv=>?_⟩⟩
   have:=(((Z0w sh g (n+1) z.2 B z.1).mp (q z hz)) x hx).2 v hv
   unfold Zd8 at this
   rw[hl z hz]at this
   exact this
theorem Zal (sh:Shape)(g:Graph)(n:Nat)(c:Vawcta.Cache):mostIn sh g (n+1) [({node:=0,stood:=false,cache:=c},0)]=best sh g (n+1) {node:=0,stood:=false,cache:=c}:=by
 have hp:Z5k [(({node:=0,stood:=false,cache:=c}:Moment),0)]:=λz hz=>by rw[mem_singleton.mp hz]
 have h:=λB=>Z8e sh g B n _ hp
 apply Nat.le_antisymm
 ·refine(h _).mpr λz hz=>?_
  rw[mem_singleton.mp hz]
  show 0+best sh g (n+1) {node:=0,stood:=false,cache:=c}<=best sh g (n+1) {node:=0,stood:=false,cache:=c}
  omega
 ·have:=(h _).mp (Nat.le_refl _) _ (mem_singleton.mpr rfl)
  have:0+best sh g (n+1) {node:=0,stood:=false,cache:=c}<=_:=this
  omega
theorem Z5l {α:Type}[DecidableEq α]:∀(l m:List α),l.Nodup->(∀x∈l,x∈m)->l.length<=m.length
 |[],m,_,_=>Nat.zero_le _
 |a::l,m,h,hs=>by
  obtain⟨h1,h2⟩:=nodup_cons.mp h
  have ha:=hs a mem_cons_self
  have ih:=Z5l l (m.erase a) h2 λx hx=>(List.mem_erase_of_ne (λq:x=a=>h1 (by rw[<-q];exact hx))).mpr (hs x (mem_cons_of_mem _ hx))
  rw[List.length_erase_of_mem ha]at ih
  have:0<m.length:=List.length_pos_of_mem ha
  rw[length_cons]
  omega
noncomputable def Me (m:Moment):Moment:={m with stood:=false}
noncomputable section
variable {sh:Shape}{g:Graph}{v:Nat}{l':List Seen}
noncomputable def Zdb (l' l:List Seen):Prop:=∀s∈l,s.at_∈l'.map λs=>Me s.at_
theorem Z8f (hA:AllOk sh g (some v) l'){s:Seen}(hs:s.at_∈l'.map λs=>Me s.at_){x:Option Nat}(hx:x∈touches g s.at_.node){z:Seen}(hz:z∈Zx sh g none s x):z.at_∈l'.map λs=>Me s.at_:=by
 obtain⟨s',h1,h2⟩:=mem_map.mp hs
 obtain⟨u,hu,rfl⟩:=mem_map.mp hz
 have e1:s'.at_.node=s.at_.node:=by rw[<-h2];rfl
 have e2:s'.at_.cache=s.at_.cache:=by rw[<-h2];rfl
 have e3:s.at_.stood=false:=by rw[<-h2];rfl
 have hin:({at_:={node:=u,stood:=stoodThen (some v) s'.at_,cache:=touchMaybe sh s'.at_.cache x},way:=s'.way++[(s'.at_.node,mark x)]}:Seen)∈behindMoment sh g (some v) s':=by
  refine List.mem_flatMap.mpr ⟨x,by rw[e1];exact hx,mem_map.mpr ⟨u,?_,rfl⟩⟩
  rw[e1]
  exact(Py _).mp hu
 obtain⟨t,t1,t2⟩:=mem_map.mp (hA.closed s' h1 _ hin)
 refine mem_map.mpr ⟨t,t1,?_⟩
 show Me t.at_=_
 rw[t2]
 unfold Me stoodThen
 rw[e2,e3]
 rfl
theorem Z8g (zs:List Seen)(hz:∀z∈zs,z.at_∈l'.map λs=>Me s.at_):∀{l:List Seen},Zdb l' l->Zdb l' (addAll l zs):=by
 induction zs with
 |nil=>exact λh=>h
 |cons z zs ih =>
  intro l h
  refine ih (λy hy=>hz y (mem_cons_of_mem _ hy)) (l:=addN l z) λs hs=>?_
  unfold addN at hs
  split at hs
  ·exact h s hs
  ·rcases mem_append.mp hs with hs | hs
   ·exact h s hs
   ·rw[mem_singleton.mp hs]
    exact hz z mem_cons_self
theorem Z3l (hA:AllOk sh g (some v) l'){s:Seen}(hs:s.at_∈l'.map λs=>Me s.at_):∀(xs:List (Option Nat)) {l:List Seen},(∀x∈xs,x∈touches g s.at_.node)->Zdb l' l->Zdb l' (Ys sh g none l s xs)
 |[],l,_,h=>h
 |x::xs,l,hx,h=>Z3l hA hs xs (λy hy=>hx y (mem_cons_of_mem _ hy)) (Z8g _ (λz hz=>Z8f hA hs (hx x mem_cons_self) hz) h)
theorem Z8h (hA:AllOk sh g (some v) l'){l:List Seen}(hg:SGood sh g l)(h:Zdb l' l):l.length<=400:=by
 have h1:=Z5l (l.map (·.at_)) (l'.map λs=>Me s.at_) hg.nd λx hx=>by
  obtain⟨s,hs,rfl⟩:=mem_map.mp hx
  exact h s hs
 rw[length_map,length_map]at h1
 have:=hA.few
 omega
theorem Zc1 (hp:0<sh.sets)(gok:GrOk g)(hA:AllOk sh g (some v) l'):∀(n i:Nat) (l:List Seen),SGood sh g l->Zdb l' l->∃m,goThrough sh g none n i l=some m
 |0,i,l,_,_=>⟨l,rfl⟩
 |n+1,i,l,hg,hu=>by
  cases q:l[i]? with
  |none=>exact⟨l,Zgd q⟩
  |some s =>
   have hs:=hu s (mem_of_getElem? q)
   have hg2:=SGood.step (wt:=none) hp gok (touches g s.at_.node) hg q λ_ h=>h
   have hu2:=Z3l hA hs (touches g s.at_.node) (λ_ h=>h) hu
   rw[Zaf q (Z8h hA hg hu),if_pos (Z8h hA hg2 hu2)]
   exact Zc1 hp gok hA n (i+1) _ hg2 hu2
end
theorem Zdc {sh:Shape}{g:Graph}{v:Nat}{c:Vawcta.Cache}(hp:0<sh.sets)(gok:GrOk g)(hc:CaOk sh c){l':List Seen}(h:moments sh g (some v) c=some l'):∃l,moments sh g none c=some l:=by
 obtain⟨hA,m,hm⟩:=Wv hp gok hc h
 unfold moments
 refine Zc1 hp gok hA 401 0 _ ⟨λi s e=>?_,nodup_cons.mpr ⟨not_mem_nil,nodup_nil⟩⟩ λs hs=>?_
 ·cases i with
  |zero =>
   cases e
   exact⟨gok.pos,hc,Nat.le_refl _⟩
  |succ i=>simp at e
 ·rw[mem_singleton.mp hs,hm]
  exact mem_cons_self
end Sl
namespace Sl
open PySem PySem.Spec PyProof.Rows L2
abbrev Us:Stmt:=Tj (top 41) 0
abbrev Z5m:Stmt:=top 42
abbrev Vh:Stmt:=top 43
abbrev Wn:Stmt:=top 44
abbrev Ut:Stmt:=top 45
abbrev Sb:Stmt:=top 46
abbrev Z5n:Stmt:=top 47
abbrev Qi:Stmt:=top 48
noncomputable section
variable {P:Program}{w:World}{K:W.Frag}{mg:Str->Option Value}{base:Heap}{C CG CM f:Addr}{fd:FuncData}
noncomputable def spNB (CG:Addr):Sp:=λvs H Q _=>∃(q:Addr) (g:Graph) (v:Nat),vs=[.ref q,.int (v:Int)]/\GraphAt CG H q g/\GrOk g/\∀(H':Hp) (t:Addr),Same H H'->H' t=some (.lst (Zl (uniq (nextOf g v))))->Q (.ref t) H'
theorem Z0y:FnScope ["graph","node","behind","source","target"] ["graph","node"] (Zf Vu):=#[5]
noncomputable def Mv (es:List (Nat×Nat))(v:Nat):List Nat:=(es.filter λe=>e.1==v).map λe=>e.2
theorem Zdd (es:List (Nat×Nat))(e:Nat×Nat)(v:Nat):Mv (es++[e]) v=if e.1=v then Mv es v++[e.2] else Mv es v:=by
 unfold Mv
 rw[List.filter_append,map_append]
 by_cases z:e.1=v
 ·rw[if_pos z,filter_cons,if_pos (by rw[z];exact beq_self_eq_true v)]
  rfl
 ·rw[if_neg z,filter_cons,if_neg (by rw[beq_iff_eq];exact z)]
  exact append_nil _
theorem Zc2:∀(l:List Nat),(uniq l).length<=l.length:=λl=>by
 refine Ur (p:=λl=>(uniq l).length<=l.length) (Nat.le_refl _) (λl a ih=>?_) l
 rw[Px,length_append,length_singleton]
 split
 ·omega
 ·rw[length_append,length_singleton]
  omega
theorem Z0z (F:Fun K "nodes_behind" "nodes_behind" Vu f fd)(TG:TGraph K CG):FnOk P w K mg base CX0 1 f fd ["graph","node"] (spNB CG):=by
 exists 0,Z0y
 ·obtain⟨q,g,v,rfl,hG,gok,k⟩:=h
  refine⟨_,Zb (#[0,2,Zv Zc])
   (Zb (Yy PassesOwn.never rfl (Yc (Zh (pv 0) rfl)) (Te rfl (Yf (#[1,3]) (Yf (#[1,4]) Ww)))
    (Zd (Yh (PW.pt (Zi8 (Zo Ro (pv 3) (pv 1) rfl) (Zdt (Zo Vm (pv 4) (pv 2) rfl))))
     (Zd (Xd (#[3,pv 2,Za (pv 4) Zc]))) Zr)))
   (Zd (Zj (pv 2)))),?_⟩
  obtain⟨dx,fs,ll,el,e1,e2,e3,_,⟨ts,e7,e8,e9⟩⟩:=id hG
  refine⟨Nat.zero_le _,λm hm=>?_⟩
  obtain⟨s1,f1⟩:=newE hm (.lst [])
  generalize upd H m _=H1 at s1 f1 ⊢
  refine⟨_,rfl,q,CG,dx,fs,_,rfl,s1 _ _ e1,TG.cl,TG.edges,e3,el,rfl,⟨_,SqL.of (s1 _ _ e7)⟩,Xk (K:=K) (a:=el) (xs:=ts.map V.ref) (λi σ H'=>∃(v3 v4:Option V),σ=[some (.ref q),some (.int (v:Int)),some (.ref m),v3,v4]/\Same H H'/\H' m=some (.lst (Zl (uniq (Mv (g.edges.take i) v)))))
   ⟨none,none,rfl,s1,f1⟩ (λi σ H' _ ⟨_,_,_,s5,_⟩=>SqL.of (s5 _ _ e7)) ?_ ?_⟩
  ·rintro i y σ H' hi ⟨v3,v4,rfl,s5,f5⟩
   obtain⟨a,ha,rfl⟩:=Yw hi
   have hil:i<g.edges.length:=by
    have:=(gse.mp ha).1
    omega
   obtain⟨e,he⟩:∃e,g.edges[i]?=some e:=⟨_,getElem?_eq_getElem hil⟩
   have hte:=s5 _ _ (e9 i a e ha he)
   have eN:=Zdd (g.edges.take i) e v
   rw[<-Zw he]at eN
   refine⟨a,_,rfl,SqT.of hte,rfl,_,_,rfl,_,_,rfl,rfl,_,rfl,_,rfl,rfl,_,rfl,?_⟩
   show if decide (V.int (e.1:Int)=V.int (v:Int))=true then _ else _
   rw[Xm]
   refine ite2 (λz=>?_) λz=>?_
   ·have z':e.1=v:=of_decide_eq_true z
    rw[if_pos z']at eN
    refine⟨_,rfl,_,rfl,m,_,rfl,.inl (SqL.of f5),rfl,Xb _,_,rfl,?_⟩
    show if(!inV (.int (e.2:Int)) (Zl (uniq (Mv (g.edges.take i) v))))=true then _ else _
    rw[Xi]
    have eU:=Px (Mv (g.edges.take i) v) e.2
    rw[<-eN]at eU
    refine ite2 (λy=>?_) λy=>?_
    ·have hl:=Zc2 (Mv (g.edges.take i) v)
     have hl2:(Mv (g.edges.take i) v).length<=g.edges.length:=by
      unfold Mv
      rw[length_map]
      exact Nat.le_trans (List.length_filter_le _ _) (by rw[length_take];omega)
     have hf:=gok.few
     refine⟨_,rfl,.inl ⟨rfl,_,SqL.of f5⟩,_,rfl,m,_,_,rfl,rfl,f5,Zg (by rw[Zi];omega),?_⟩
     obtain⟨s6,f6⟩:=chg (o:=.lst (Zl (uniq (Mv (g.edges.take i) v))++[V.int (e.2:Int)])) s5 hm
     refine⟨_,_,rfl,s6,?_⟩
     rw[f6,eU,if_neg (by intro q;rw[q]at y;cases y),Zu]
     rfl
    ·refine⟨_,_,rfl,s5,?_⟩
     rw[f5,eU,if_pos (by cases q:(uniq (Mv (g.edges.take i) v)).contains e.2 with | true=>rfl | false=>rw[q]at y;exact absurd rfl y)]
   ·have z':¬e.1=v:=λq=>z (decide_eq_true q)
    rw[if_neg z']at eN
    refine iteF ⟨_,_,rfl,s5,?_⟩
    rw[f5,eN]
  ·rintro σ H' ⟨v3,v4,rfl,s5,f5⟩
   rw[length_map,e8,take_length]at f5
   exact⟨_,rfl,k H' m s5 f5⟩
end
noncomputable def Keep (H H':Hp):Prop:=∀b o,H b=some o->(∀xs,o≠HO.lst xs)->(∀φ,o≠HO.ext φ)->H' b=some o
theorem Keep.of {H H':Hp}(s:Same H H'):Keep H H':=λb o e _ _=>s b o e
theorem Keep.trans {H H1 H2:Hp}(a:Keep H H1)(b:Keep H1 H2):Keep H H2:=λc o e x y=>b c o (a c o e x y) x y
theorem Keep.lst {H H':Hp}{D:Addr}{xs:List V}{o:HO}(a:Keep H H')(h:H' D=some (.lst xs)):Keep H (upd H' D o):=λb u e x y=>by
 have q:=a b u e x y
 rw[Zk (Xl q h (x xs))]
 exact q
theorem Keep.ext {H H':Hp}{D:Addr}{φ:Heap->Prop}{o:HO}(a:Keep H H')(h:H' D=some (.ext φ)):Keep H (upd H' D o):=λb u e x y=>by
 have q:=a b u e x y
 rw[Zk (Xl q h (y φ))]
 exact q
theorem Keep.tup {H H':Hp}(a:Keep H H'):∀b xs,H b=some (.tup xs)->H' b=some (.tup xs):=λb xs e=>a b _ e (by intro _ q;cases q) (by intro _ q;cases q)
theorem Keep.ins {H H':Hp}{p C dx:Addr}{fs:List (Str×V)}(a:Keep H H')(e:H p=some (.ins C dx fs)):H' p=some (.ins C dx fs):=a _ _ e (by intro _ q;cases q) (by intro _ q;cases q)
theorem StateAt.keep {H H':Hp}{p:Addr}{c:Vawcta.Cache}(h:StateAt H p c)(a:Keep H H'):StateAt H' p c:=h.tups a.tup
theorem Zit {K:W.Frag}{a:Addr}{xs:List V}{g:TG}{te:TE}{vs:List Nat}{σ:L2.St}{H1:Hp}{D:Addr}{Qd:Hp->Prop}(Rel:Nat->V->Hp->Prop)(hm:∀i y H H',Rel i y H->Keep H H'->Rel i y H')(hD:H1 D=none)(ha:SqL K H1 a xs)(hz:xs.length<sizeLine)
  (hs:∀(i:Nat) (x:V) (H:Hp) (R:L2.VK),xs[i]?=some x->Same H1 H->(∀(y:V) (H4:Hp),Rel i y H4->Same H H4->R y H4)->g x (wipe σ vs) H λσ2 H2=>wipe σ2 vs=wipe σ vs/\te σ2 H2 R)
  (hd:∀H ys,Same H1 H->H D=some (.lst ys)->ys.length=xs.length->(∀(i:Nat) (y:V),ys[i]?=some y->Rel i y H)->Qd H) :
  ∃W:Nat->Nat->Hp->Prop,(∃m,W 0 m (upd H1 D (.lst [])))/\∀i m H,W i m H->
   ((Itl K a).stop i H/\Qd H)\/((Itl K a).go i H/\∃Nx:Hp->Prop,(∀H',Nx H'->∃m',m'<m/\W (i+1) m' H')/\∀x H',(Itl K a).yld i H x H'->g x (wipe σ vs) H' λσ2 H2=>wipe σ2 vs=wipe σ vs/\tYes σ2 H2 λb H3 =>
    if b=true then te σ2 H3 λy H4=>∃acc,H4 D=some (.lst acc)/\acc.length<sizeLine/\Nx (upd H4 D (.lst (acc++[y]))) else Nx H3):=by
 refine Rt (K:=K) (a:=a) (xs:=xs) (tt:=tYes) (λi H'=>Same H1 H'/\i<=xs.length/\∃ys,H' D=some (.lst ys)/\ys.length=i/\∀(j:Nat) (y:V),ys[j]?=some y->Rel j y H') ⟨Zq hD,Nat.zero_le _,[],Ze,rfl,λj y e=>by simp at e⟩ (λi H' _ ⟨s1,_⟩=>s1.seq ha) ?_ ?_
 ·rintro i x H' hi ⟨s1,hle,ys,hD',hl,hr⟩
  have hi':i<xs.length:=(gse.mp hi).1
  refine hs i x H' _ hi s1 λy H4 hy4 s4=>⟨ys,s4 _ _ hD',by omega,λb o eb=>?_,by omega,ys++[y],Ze,by rw[length_append,length_singleton,hl],λj z ez=>?_⟩
  ·rw[Zk (Zm eb hD)]
   exact s4 _ _ (s1 _ _ eb)
  ·have kp:Keep H4 (upd H4 D (.lst (ys++[y]))):=(Keep.of (Same.refl H4)).lst (s4 _ _ hD')
   by_cases q:j<ys.length
   ·rw[getElem?_append_left q]at ez
    exact hm _ _ _ _ (hr j z ez) ((Keep.of s4).trans kp)
   ·rw[getElem?_append_right (by omega)]at ez
    have e0:j-ys.length=0:=by
     have:=(gse.mp ez).1
     simp only[length_singleton]at this
     omega
    rw[e0]at ez
    have ej:j=i:=by omega
    subst ej
    cases ez
    exact hm _ _ _ _ hy4 kp
 ·rintro H' ⟨s1,hle,ys,hD',hl,hr⟩
  exact hd H' ys s1 hD' hl hr
noncomputable def optV:Option Nat->V
 |some n=>.int (n:Int)
 |none=>.non
structure MomF (fs:List (Str×V))(m:Moment)(q:Addr)(b l:V):Prop where
 node:fs.lookup ("node":Str)=some (.int (m.node:Int))
 state:fs.lookup ("state":Str)=some (.ref q)
 stood:fs.lookup ("stood":Str)=some (.bl m.stood)
 before:fs.lookup ("before":Str)=some b
 line:fs.lookup ("line":Str)=some l
inductive MomAt (CM:Addr)(H:Hp):Addr->Moment->Vawctb.Way->Prop
 |first {p dx q:Addr} {fs:List (Str×V)} {m:Moment}:H p=some (.ins CM dx fs)->MomF fs m q .non .non->StateAt H q m.cache->MomAt CM H p m []
 |next {p dx q b:Addr} {fs:List (Str×V)} {m m':Moment} {w:Vawctb.Way} {x:Option Nat}:H p=some (.ins CM dx fs)->MomF fs m q (.ref b) (optV x)->StateAt H q m.cache->MomAt CM H b m' w->MomAt CM H p m (w++[(m'.node,Vawctb.mark x)])
theorem MomAt.keep {CM:Addr}{H H':Hp}{p:Addr}{m:Moment}{w:Vawctb.Way}(h:MomAt CM H p m w)(k:Keep H H'):MomAt CM H' p m w:=by
 induction h with
 |first h1 h2 h3=>exact .first (k.ins h1) h2 (h3.keep k)
 |next h1 h2 h3 _ ih=>exact .next (k.ins h1) h2 (h3.keep k) ih
theorem MomAt.same {CM:Addr}{H H':Hp}{p:Addr}{m:Moment}{w:Vawctb.Way}(h:MomAt CM H p m w)(s:Same H H'):MomAt CM H' p m w:=h.keep (Keep.of s)
theorem MomAt.fields {CM:Addr}{H:Hp}{p:Addr}{m:Moment}{w:Vawctb.Way}(h:MomAt CM H p m w):∃dx fs q b l,H p=some (.ins CM dx fs)/\MomF fs m q b l/\StateAt H q m.cache:=by
 cases h with
 |first h1 h2 h3=>exact⟨_,_,_,_,_,h1,h2,h3⟩
 |next h1 h2 h3 _=>exact⟨_,_,_,_,_,h1,h2,h3⟩
noncomputable def MomsAt (CM:Addr)(H:Hp)(t:Addr)(l:List Vawctb.Seen):Prop:=∃as:List Addr,H t=some (.lst (as.map V.ref))/\as.length=l.length/\∀(i:Nat) (a:Addr) (s:Vawctb.Seen),as[i]?=some a->l[i]?=some s->MomAt CM H a s.at_ s.way
theorem MomsAt.same {CM:Addr}{H H':Hp}{t:Addr}{l:List Vawctb.Seen}(h:MomsAt CM H t l)(s:Same H H'):MomsAt CM H' t l:=by
 obtain⟨as,h1,h2,h3⟩:=h
 exact⟨as,s _ _ h1,h2,λi a z e1 e2=>(h3 i a z e1 e2).same s⟩
theorem Zgf {CM:Addr}{H:Hp}{t:Addr}{ys:List V}{l:List Vawctb.Seen}(h:H t=some (.lst ys))(hl:ys.length=l.length)(hi:∀(i:Nat) (y:V) (s:Vawctb.Seen),ys[i]?=some y->l[i]?=some s->∃a,y=.ref a/\MomAt CM H a s.at_ s.way):MomsAt CM H t l:=by
 have all:∀(ys:List V) (l:List Vawctb.Seen),ys.length=l.length->(∀(i:Nat) (y:V) (s:Vawctb.Seen),ys[i]?=some y->l[i]?=some s->∃a,y=.ref a/\MomAt CM H a s.at_ s.way)->∃as:List Addr,ys=as.map V.ref/\as.length=l.length/\∀(i:Nat) (a:Addr) (s:Vawctb.Seen),as[i]?=some a->l[i]?=some s->MomAt CM H a s.at_ s.way:=by
  intro ys
  induction ys with
  |nil =>
   intro l hl _
   cases l with
   |nil=>exact⟨[],rfl,rfl,λi a s e=>by simp at e⟩
   |cons _ _=>cases hl
  |cons y ys ih =>
   intro l hl hi
   cases l with
   |nil=>cases hl
   |cons s l =>
    obtain⟨a,rfl,hm⟩:=hi 0 y s rfl rfl
    obtain⟨as,e1,e2,e3⟩:=ih l (by simpa using hl) λi y z ey ez=>hi (i+1) y z ey ez
    refine⟨a::as,by rw[List.map_cons,<-e1],by rw[length_cons,length_cons,e2],λi b z eb ez=>?_⟩
    cases i with
    |zero =>
     cases eb
     cases ez
     exact hm
    |succ i=>exact e3 i b z eb ez
 obtain⟨as,e1,e2,e3⟩:=all ys l hl hi
 exact⟨as,by rw[h,e1],e2,e3⟩
structure TMoment (K:W.Frag)(C:Addr):Prop where
 cl:Cls K C
 node:NoAttr K C "node"
 state:NoAttr K C "state"
 stood:NoAttr K C "stood"
 before:NoAttr K C "before"
 line:NoAttr K C "line"
noncomputable def Mf (us:List V):List (Str×V):=putF "line" (us.getD 4 .non) (putF "before" (us.getD 3 .non) (putF "stood" (us.getD 2 .non) (putF "state" (us.getD 1 .non) (putF "node" (us.getD 0 .non) []))))
noncomputable section
variable {P:Program}{w:World}{K:W.Frag}{mg:Str->Option Value}{base:Heap}{C CG CM f:Addr}{fd:FuncData}
theorem Z2c:FnScope ["self","node","state","stood","before","line"] ["self","node","state","stood","before","line"] (Zf Us):=#[5]
theorem Z2d (F:Fun K "__init__" "Moment.__init__" Us f fd)(T:TMoment K C):FnOk P w K mg base CX0 1 f fd ["self","node","state","stood","before","line"] (Vo C 5 Mf):=by
 exists 0,Z2c
 ·obtain⟨p,dx,us,rfl,hl,hp,k⟩:=h
  match us,hl with
  |[a,b,c,d,e],_ =>
   refine⟨_,Zb (Yq (pv 0) (pv 1) rfl) (Zb (Yq (pv 0) (pv 2) rfl) (Zb (Yq (pv 0) (pv 3) rfl) (Zb (Yq (pv 0) (pv 4) rfl) (Zd (Yq (pv 0) (pv 5) rfl))))),?_⟩
   refine⟨_,rfl,_,rfl,p,C,dx,[],rfl,hp,T.cl,T.node,(by show 0<1000;decide),?_⟩
   refine⟨_,rfl,_,rfl,p,C,dx,_,rfl,Ze,T.cl,T.state,(by show 1<1000;decide),?_⟩
   refine⟨_,rfl,_,rfl,p,C,dx,_,rfl,Ze,T.cl,T.stood,(by show 2<1000;decide),?_⟩
   refine⟨_,rfl,_,rfl,p,C,dx,_,rfl,Ze,T.cl,T.before,(by show 3<1000;decide),?_⟩
   refine⟨_,rfl,_,rfl,p,C,dx,_,rfl,Ze,T.cl,T.line,(by show 4<1000;decide),?_⟩
   exact k _ Ze λb o e hb=>by rw[Zk hb,Zk hb,Zk hb,Zk hb,Zk hb];exact e
noncomputable def Zk1 (CM:Addr):Sp:=λvs H Q _=>∃(p:Addr) (m:Moment) (wy:Vawctb.Way),vs=[.ref p]/\MomAt CM H p m wy/\∀(H':Hp) (b:Addr),Same H H'->KeyAt H' b m->Q (.ref b) H'
theorem Zgg:FnScope ["moment"] ["moment"] (Zf Z5m):=#[5]
theorem Zgh (F:Fun K "key_of" "key_of" Z5m f fd)(T:TMoment K CM):FnOk P w K mg base CX0 1 f fd ["moment"] (Zk1 CM):=by
 exists 0,Zgg
 ·obtain⟨p,m,wy,rfl,hM,k⟩:=h
  refine⟨_,Zd (Zj (Pc (Za (Zh (pv 0) rfl) (Za (Zh (pv 0) rfl) (Za (Zh (pv 0) rfl) Zc))))),?_⟩
  obtain⟨dx,fs,q,b,l,h1,h2,h3⟩:=hM.fields
  refine⟨_,rfl,p,CM,dx,fs,_,rfl,h1,T.cl,T.node,h2.node,_,rfl,p,CM,dx,fs,_,rfl,h1,T.cl,T.state,h2.state,_,rfl,p,CM,dx,fs,_,rfl,h1,T.cl,T.stood,h2.stood,(by show 3<=sizeLine;decide),λt ht=>?_⟩
  exact k _ t (Zq ht) ⟨q,Ze,h3.same (Zq ht)⟩
noncomputable def spLN (CG:Addr):Sp:=λvs H Q _=>∃(q:Addr) (g:Graph) (v:Nat),vs=[.ref q,.int (v:Int)]/\GraphAt CG H q g/\v<g.nodes.length/\∀(H':Hp) (t:Addr),Same H H'->H' t=some (.lst ((touches g v).map optV))->Q (.ref t) H'
theorem Mw:FnScope ["graph","node"] ["graph","node"] (Zf Vh):=#[5]
theorem GraphAt.lines_at {CG:Addr}{H:Hp}{p:Addr}{g:Graph}(h:GraphAt CG H p g){v:Nat}(hv:v<g.nodes.length):∃dx fs ll xs a,H p=some (.ins CG dx fs)/\fs.lookup ("lines":Str)=some (.ref ll)/\H ll=some (.lst xs)/\xs.length=g.nodes.length/\xs[v]?=some (V.ref a)/\H a=some (.lst (Zl (Vawctb.linesAt g v))):=by
 obtain⟨dx,fs,ll,el,e1,e2,_,⟨as,e4,e5,e6⟩,_⟩:=h
 have hi:v<as.length:=by omega
 have ha:as[v]?=some as[v]:=getElem?_eq_getElem hi
 refine⟨dx,fs,ll,_,as[v],e1,e2,e4,by rw[length_map,e5],by rw[getElem?_map,ha];rfl,?_⟩
 have hl:g.nodes[v]?=some (Vawctb.linesAt g v):=by
  unfold Vawctb.linesAt
  rw[getD_eq_getElem?_getD,getElem?_eq_getElem hv]
  rfl
 exact e6 v _ _ ha hl
theorem Mx (F:Fun K "lines_or_none" "lines_or_none" Vh f fd)(B:Blt mg)(T:TGraph K CG):FnOk P w K mg base CX0 1 f fd ["graph","node"] (spLN CG):=by
 exists 0,Mw
 ·obtain⟨q,g,v,rfl,hG,hv,k⟩:=h
  refine⟨_,Zd (Zj (Wg (Zo Zgx (#[6,Za (Yp Zy (Zh (pv 0) rfl) (pv 1) (λ_ _=>rfl)) Zc]) Zn rfl) (Yp Zy (Zh (pv 0) rfl) (pv 1) (λ_ _=>rfl)) (Zv (Za Yb Zc)))),?_⟩
  obtain⟨dx,fs,ll,xs,a,e1,e2,e3,e4,e5,e6⟩:=hG.lines_at hv
  refine⟨_,rfl,q,CG,dx,fs,_,rfl,e1,T.cl,T.lines,e2,_,rfl,ll,xs,_,_,rfl,rfl,SqL.of e3,Ya e5,a,_,rfl,.inl (SqL.of e6),?_⟩
  have et:touches g v=if(Vawctb.linesAt g v).isEmpty then [none] else(Vawctb.linesAt g v).map some:=rfl
  refine⟨_,_,rfl,rfl,_,rfl,?_⟩
  show if decide ((0:Int)<((Zl (Vawctb.linesAt g v)).length:Int))=true then _ else _
  rw[Zi]
  refine ite2 (λz=>?_) λz=>?_
  ·have z':(0:Int)<((Vawctb.linesAt g v).length:Int):=of_decide_eq_true z
   refine⟨_,rfl,q,CG,dx,fs,_,rfl,e1,T.cl,T.lines,e2,_,rfl,ll,xs,_,_,rfl,rfl,SqL.of e3,Ya e5,k H a (Same.refl H) ?_⟩
   rw[e6,et,if_neg (by intro q;rw[isEmpty_iff]at q;rw[q]at z';exact absurd z' (by decide)),List.map_map]
   rfl
  ·have z':Vawctb.linesAt g v=[]:=by
    cases q:Vawctb.linesAt g v with
    |nil=>rfl
    |cons _ _ =>
     rw[q]at z
     exact absurd (decide_eq_true (by rw[length_cons];omega)) z
   refine⟨(by show 1<=sizeLine;decide),λt ht=>k _ t (Zq ht) ?_⟩
   rw[Ze,et,z']
   rfl
theorem Zc3 {c:Bool}{tA tB:TE}{σ:L2.St}{H:Hp}{R:L2.VK}(Post:V->Hp->Prop)(hA:c=true->∀R':L2.VK,(∀v H1,Post v H1->R' v H1)->tA σ H R')(hB:c=false->∀R':L2.VK,(∀v H1,Post v H1->R' v H1)->tB σ H R')(hk:∀v H1,Post v H1->R v H1) :
  if c=true then tA σ H R else tB σ H R:=by
 cases c with
 |true=>exact iteT (hA rfl R hk)
 |false=>exact iteF (hB rfl R hk)
noncomputable def spMB (C CG CM:Addr):Sp:=λvs H Q _=>∃(p q mo:Addr) (sh:Vawctb.Shape) (g:Graph) (s:Vawctb.Seen) (x wt:Option Nat),vs=[.ref p,.ref q,.ref mo,optV x,optV wt]/\CacheAt C H p sh/\ShOk sh/\GraphAt CG H q g/\GrOk g/\MomAt CM H mo s.at_ s.way/\CaOk sh s.at_.cache/\
 ∀(H':Hp) (t:Addr),H t=none->Same H H'->MomsAt CM H' t (Zx sh g wt s x)->Q (.ref t) H'
theorem Nh:FnScope ["cache","graph","moment","line","watched","state","stood","target"] ["cache","graph","moment","line","watched"] (Zf Wn):=#[5]
theorem Oa (x:Option Nat):decide (optV x=V.non)=!x.isSome:=by
 cases x with
 |none=>rfl
 |some n=>rfl
theorem Zk2 (n:Nat)(x:Option Nat):decide (V.int (n:Int)=optV x)=(x==some n):=by
 cases x with
 |none=>rfl
 |some m =>
  show decide (V.int (n:Int)=V.int (m:Int))=_
  rw[Xm]
  by_cases e:n=m
  ·rw[decide_eq_true e,e]
   exact(beq_self_eq_true (some m)).symm
  ·rw[decide_eq_false e]
   exact(beq_eq_false_iff_ne.mpr λq=>e (Option.some.inj q).symm).symm
theorem Sx {g:Graph}(h:GrOk g)(v:Nat):(uniq (nextOf g v)).length<=24:=by
 have h1:=Zc2 (nextOf g v)
 have h2:(nextOf g v).length<=g.edges.length:=by
  unfold nextOf
  rw[length_map]
  exact List.length_filter_le _ _
 have:=h.few
 omega
theorem Ni (F:Fun K "moments_behind" "moments_behind" Wn f fd)(T:TMoment K CM)(kT:#[52])(kN:#[81])(kM:#[57]) :
  FnOk P w K mg base CX0 4 f fd ["cache","graph","moment","line","watched"] (spMB C CG CM):=by
 exists 0,Nh
 ·obtain⟨p,q,mo,sh,g,sn,x,wt,rfl,hC,h0,hG,gok,hM,cok,k⟩:=h
  have hr2:Room 2 _:=hr.mono (by decide)
  refine⟨_,Zb (Jo (i:=5) SC.nd rfl (Or.inr rfl) (Wg (Zo Xp (pv 3) Yb rfl) (Zh (pv 2) rfl) (Zs kT hr (Za (pv 0) (Za (Zh (pv 2) rfl) (Za (pv 3) Zc))))))
   (Zb (Jo (i:=6) SC.nd rfl (Or.inr rfl) (Zgw (Zh (pv 2) rfl) (Jn (Xx Ro (Zh (pv 2) rfl) (pv 4) rfl))))
   (Zd (Zj (Ti (own:=[("target",7)]) rfl SC.nd (Yc (Zs kN #[2] (Za (pv 1) (Za (Zh (pv 2) rfl) Zc)))) (Yd rfl)
    (λ_ _ _ _ _=>#[1,7]) (λ_ _ _ _ _=>Yv) (λ_ _ _ _ _=>Wz kM hr2 (Za (pv 7) (Za (pv 5) (Za (pv 6) (Za (pv 2) (Za (pv 3) Zc)))))))))),?_⟩
  obtain⟨dx,fs,st,b,l,h1,h2,h3⟩:=hM.fields
  refine⟨_,rfl,rfl,_,rfl,?_⟩
  refine Zc3 (λv H1=>∃st1,v=.ref st1/\Same H H1/\StateAt H1 st1 (Vawctb.touchMaybe sh sn.at_.cache x)) (λz R' hR=>?_) (λz R' hR=>?_) ?_
  ·rw[Oa]at z
   have zx:x=none:=by
    cases x with
    |none=>rfl
    |some _=>cases z
   subst zx
   exact⟨_,rfl,mo,CM,dx,fs,_,rfl,h1,T.cl,T.state,h2.state,hR _ H ⟨st,rfl,Same.refl H,h3⟩⟩
  ·rw[Oa]at z
   obtain⟨n,rfl⟩:∃n,x=some n:=by
    cases x with
    |none=>cases z
    |some n=>exact⟨n,rfl⟩
   refine⟨_,rfl,_,rfl,mo,CM,dx,fs,_,rfl,h1,T.cl,T.state,h2.state,_,rfl,p,st,sh,_,n,rfl,hC,h0,h3,cok,λH1 r s1 g1=>hR _ H1 ⟨r,rfl,s1,g1⟩⟩
  ·rintro v H1 ⟨st1,rfl,s1,g1⟩
   have k1:=s1 _ _ h1
   dsimp only[Z3t,tSeq,tAsg]
   refine Z0n sn.at_.stood (wt==some sn.at_.node) (λR hR=>?_) (λR hR=>?_) ?_
   ·exact⟨_,rfl,mo,CM,dx,fs,_,rfl,k1,T.cl,T.stood,h2.stood,hR⟩
   ·refine⟨_,rfl,mo,CM,dx,fs,_,rfl,k1,T.cl,T.node,h2.node,_,rfl,?_,?_⟩
    ·cases wt <;> rfl
    ·show R (.bl (decide (V.int (sn.at_.node:Int)=optV wt))) H1
     rw[Zk2]
     exact hR
   ·refine⟨_,rfl,_,rfl,mo,CM,dx,fs,_,rfl,k1,T.cl,T.node,h2.node,q,g,_,rfl,hG.same s1,gok,λH2 t s2 f2=>⟨t,rfl,⟨_,SqL.of f2⟩,λD hD=>?_⟩⟩
    have hn:=Sx gok sn.at_.node
    have s02:=s1.trans s2
    refine Zit (Rel:=λi y H'=>∃a v,y=.ref a/\(uniq (nextOf g sn.at_.node))[i]?=some v/\MomAt CM H' a {node:=v,stood:=stoodThen wt sn.at_,cache:=Vawctb.touchMaybe sh sn.at_.cache x} (sn.way++[(sn.at_.node,Vawctb.mark x)])) (λi y H' H'' ⟨a,v,e,hv,hm⟩ kp=>⟨a,v,e,hv,hm.keep kp⟩) hD (SqL.of f2) (Zg (by rw[Zi];omega)) (λi y H3 R hi s3 hR=>?_) λH3 ys s3 f3 hl hy=>?_
    ·obtain⟨n,hn,rfl⟩:=Yr hi
     refine⟨rfl,_,rfl,_,rfl,_,rfl,_,rfl,_,rfl,λa da na nda nea=>⟨a,da,_,rfl,rfl,Ze,λH4 f4 k4=>⟨rfl,hR _ H4 ⟨a,n,rfl,hn,?_⟩ (Same.made na nda k4)⟩⟩⟩
     have s4:=Same.made na nda k4
     have s24:=s3.trans s4
     exact .next f4 ⟨rfl,rfl,rfl,rfl,rfl⟩ ((g1.same s2).same s24) (hM.same ((s02.trans s3).trans s4))
    ·refine k H3 D (s02.free hD) (s02.trans s3) ?_
     have hlen:ys.length=(uniq (nextOf g sn.at_.node)).length:=by rw[hl,Zi]
     refine Zgf f3 (by unfold Zx;rw[length_map];exact hlen) λi y z ey ez=>?_
     obtain⟨a,v,rfl,hv,hm⟩:=hy i y ey
     unfold Zx at ez
     rw[getElem?_map,hv]at ez
     cases ez
     exact⟨a,rfl,hm⟩
end
theorem MomsAt.snoc {CM:Addr}{H:Hp}{D a:Addr}{l:List Vawctb.Seen}{s:Vawctb.Seen}(h:MomsAt CM H D l)(ha:MomAt CM H a s.at_ s.way):∃xs,H D=some (.lst xs)/\xs.length=l.length/\MomsAt CM (upd H D (.lst (xs++[V.ref a]))) D (l++[s]):=by
 obtain⟨as,h1,h2,h3⟩:=h
 have kp:Keep H (upd H D (.lst (as.map V.ref++[V.ref a]))):=(Keep.of (Same.refl H)).lst h1
 refine⟨_,h1,by rw[length_map,h2],as++[a],by rw[Ze,map_append];rfl,by rw[length_append,length_append,h2];rfl,λi b z eb ez=>?_⟩
 by_cases q:i<as.length
 ·rw[getElem?_append_left q]at eb
  rw[getElem?_append_left (by omega)]at ez
  exact(h3 i b z eb ez).keep kp
 ·rw[getElem?_append_right (by omega)]at eb
  rw[getElem?_append_right (by omega),<-h2]at ez
  have e0:i-as.length=0:=by
   have:=(gse.mp eb).1
   simp only[length_singleton]at this
   omega
  rw[e0]at eb ez
  cases eb
  cases ez
  exact ha.keep kp
theorem MomsAt.other {CM:Addr}{H H':Hp}{t:Addr}{l:List Vawctb.Seen}(h:MomsAt CM H t l)(e:H' t=H t)(k:Keep H H'):MomsAt CM H' t l:=by
 obtain⟨as,h1,h2,h3⟩:=h
 exact⟨as,e.trans h1,h2,λi a z e1 e2=>(h3 i a z e1 e2).keep k⟩
noncomputable section
variable {P:Program}{w:World}{K:W.Frag}{mg:Str->Option Value}{base:Heap}{C CG CM f:Addr}{fd:FuncData}
noncomputable def spMA (CM:Addr):Sp:=λvs H Q _=>∃(t:Addr) (l:List Vawctb.Seen) (v:Nat),vs=[.ref t,.int (v:Int)]/\MomsAt CM H t l/\l.length<=400/\∀(H':Hp) (u:Addr),Same H H'->MomsAt CM H' u (momentsAt l v)->Q (.ref u) H'
theorem Z5o:FnScope ["moments","node","moment"] ["moments","node"] (Zf Sb):=#[5]
theorem Z2e {l:List Vawctb.Seen}{i:Nat}{s:Vawctb.Seen}(h:l[i]?=some s)(v:Nat):momentsAt (l.take (i+1)) v=if s.at_.node=v then momentsAt (l.take i) v++[s] else momentsAt (l.take i) v:=by
 unfold momentsAt
 rw[Zw h,List.filter_append,filter_cons,List.filter_nil]
 by_cases z:s.at_.node=v
 ·rw[if_pos z,if_pos (by rw[z];exact beq_self_eq_true v)]
 ·rw[if_neg z,if_neg (by rw[beq_iff_eq];exact z),append_nil]
theorem Xv (l:List Vawctb.Seen)(v:Nat):(momentsAt l v).length<=l.length:=List.length_filter_le _ _
theorem Z5p (F:Fun K "moments_at" "moments_at" Sb f fd)(T:TMoment K CM):FnOk P w K mg base CX0 1 f fd ["moments","node"] (spMA CM):=by
 exists 0,Z5o
 ·obtain⟨t,l,v,rfl,hM,hz,k⟩:=h
  refine⟨_,Zd (Zj (Ti (tt:=Zgy (tOp rEq (tFld K (tVar 2) "node") (tVar 1))) (own:=[("moment",2)]) rfl SC.nd (Yc (pv 0)) (Yd rfl)
   (λ_ _ _ _ _=>#[1,2]) (λ_ _ _ _ _=>Jy (Zo Ro (Zh (pv 2) rfl) (pv 1) rfl)) (λ_ _ _ _ _=>pv 2))),?_⟩
  obtain⟨as,h1,h2,h3⟩:=id hM
  refine⟨_,rfl,t,rfl,⟨_,SqL.of h1⟩,λD hD=>?_⟩
  refine Rt (K:=K) (a:=t) (xs:=as.map V.ref) (λi H'=>Same H H'/\MomsAt CM H' D (momentsAt (l.take i) v)) ⟨Zq hD,[],Ze,rfl,λi a z e=>by simp at e⟩ (λi H' _ ⟨s1,_⟩=>SqL.of (s1 _ _ h1)) ?_ ?_
  ·rintro i y H' hi ⟨s1,m1⟩
   obtain⟨a,ha,rfl⟩:=Yw hi
   obtain⟨z,hzi⟩:∃z,l[i]?=some z:=⟨_,getElem?_eq_getElem (by have:=(gse.mp ha).1;omega)⟩
   have ma:=(h3 i a z ha hzi).same s1
   obtain⟨dx,fs,q,b,ln,g1,g2,g3⟩:=ma.fields
   refine⟨rfl,_,rfl,a,CM,dx,fs,_,rfl,g1,T.cl,T.node,g2.node,_,rfl,rfl,_,rfl,?_⟩
   have eT:=Z2e hzi v
   show if decide (V.int (z.at_.node:Int)=V.int (v:Int))=true then _ else _
   rw[Xm]
   refine ite2 (λe=>?_) λe=>?_
   ·rw[if_pos (of_decide_eq_true e)]at eT
    obtain⟨xs,x1,x2,x3⟩:=m1.snoc ma
    refine⟨_,rfl,xs,x1,?_,λb o eb=>?_,?_⟩
    ·have h4:=Xv (l.take i) v
     rw[length_take]at h4
     exact Zg (by omega)
    ·rw[Zk (Zm eb hD)]
     exact s1 _ _ eb
    ·rw[eT]
     exact x3
   ·rw[if_neg λq=>e (decide_eq_true q)]at eT
    refine⟨s1,?_⟩
    rw[eT]
    exact m1
  ·rintro H' ⟨s1,m1⟩
   rw[length_map,h2,take_length]at m1
   exact k H' D s1 m1
end
noncomputable section
variable {P:Program}{w:World}{K:W.Frag}{mg:Str->Option Value}{base:Heap}{C CG CM f:Addr}{fd:FuncData}
noncomputable def Zk3 (CM:Addr)(H:Hp)(v:V)(o:Option (List Vawctb.Seen)):Prop:=match o with
 |none=>v=.non
 |some l=>∃t,v=.ref t/\MomsAt CM H t l
noncomputable def spAM (C CG CM:Addr):Sp:=λvs H Q _=>∃(p q st:Addr) (sh:Vawctb.Shape) (g:Graph) (c:Vawcta.Cache) (wt:Option Nat),vs=[.ref p,.ref q,.ref st,optV wt]/\CacheAt C H p sh/\ShOk sh/\GraphAt CG H q g/\GrOk g/\StateAt H st c/\CaOk sh c/\
 ∀(H':Hp) (v:V),Same H H'->Zk3 CM H' v (Vawctb.moments sh g wt c)->Q v H'
theorem Z2f:FnScope ["cache","graph","state","watched","moments","known","taken","moment","line","behind"] ["cache","graph","state","watched"] (Zf Ut):=#[5]
noncomputable def Rk (l:List Vawctb.Seen):List (Moment×V):=l.map λs=>(s.at_,V.bl true)
theorem Zc4 (l:List Vawctb.Seen)(m:Moment):(valV (Rk l) m).isSome=l.any (λz=>z.at_==m):=by
 rw[<-Ue]
 unfold Rk
 rw[List.any_map]
 congr 1
structure Live (P:Program)(w:World)(CM:Addr)(H:Hp)(lm kd:Addr)(H':Hp)(l:List Vawctb.Seen):Prop where
 same:Same H H'
 moms:MomsAt CM H' lm l
 keys:NDAt P w H' kd (Rk l)
theorem Live.ne {H:Hp}{lm kd:Addr}{H':Hp}{l:List Vawctb.Seen}(h:Live P w CM H lm kd H' l):lm≠kd:=by
 obtain⟨as,h1,_⟩:=h.moms
 obtain⟨xs,h2,_⟩:=h.keys
 exact Xl h1 h2 (by intro q;cases q)
theorem Live.on {H:Hp}{lm kd:Addr}{H' H'':Hp}{l:List Vawctb.Seen}(h:Live P w CM H lm kd H' l)(s:Same H' H''):Live P w CM H lm kd H'' l:=⟨h.same.trans s,h.moms.same s,h.keys.same s⟩
noncomputable def But2 (a b:Addr)(H H':Hp):Prop:=∀c o,H c=some o->c≠a->c≠b->H' c=some o
theorem But2.of {a b:Addr}{H H':Hp}(s:Same H H'):But2 a b H H':=λc o e _ _=>s c o e
theorem But2.trans {a b:Addr}{H H1 H2:Hp}(x:But2 a b H H1)(y:But2 a b H1 H2):But2 a b H H2:=λc o e n1 n2=>y c o (x c o e n1 n2) n1 n2
theorem But2.keep {H:Hp}{lm kd:Addr}{H1 H2:Hp}{l:List Vawctb.Seen}(b:But2 lm kd H1 H2)(h:Live P w CM H lm kd H1 l):Keep H1 H2:=λc o e x y=>by
 obtain⟨as,h1,_⟩:=h.moms
 obtain⟨xs,h2,_⟩:=h.keys
 exact b c o e (Xl e h1 (x _)) (Xl e h2 (y _))
theorem Live.key {H:Hp}{lm kd:Addr}{H':Hp}{l:List Vawctb.Seen}{s:Vawctb.Seen}{o':HO}(h:Live P w CM H lm kd H' l)(h0:H lm=none)(h1:H kd=none)(hn:l.any (λz=>z.at_==s.at_)=false)(n':NDAt P w (upd H' kd o') kd (putK (Rk l) s.at_ (.bl true))) :
  Same H (upd H' kd o')/\MomsAt CM (upd H' kd o') lm l/\NDAt P w (upd H' kd o') kd (Rk (l++[s])):=by
 obtain⟨xs,e,_⟩:=h.keys
 refine⟨(chg h.same h1).1,h.moms.other (Zk h.ne) ((Keep.of (Same.refl H')).ext e),?_⟩
 have ev:valV (Rk l) s.at_=none:=by
  have:=Zc4 l s.at_
  rw[hn]at this
  cases q:valV (Rk l) s.at_ with
  |none=>rfl
  |some _ =>
   rw[q]at this
   cases this
 rw[Zb6 _ ev]at n'
 unfold Rk at n' ⊢
 rw[map_append]
 exact n'
theorem Zam (l zs:List Vawctb.Seen)(z:Vawctb.Seen):addAll l (zs++[z])=addN (addAll l zs) z:=by
 rw[Ws]
 rfl
theorem Z1a:∀(zs l:List Vawctb.Seen),(addAll l zs).length<=l.length+zs.length
 |[],l=>Nat.le_refl _
 |z::zs,l=>by
  have h1:=Z1a zs (addN l z)
  have h2:(addN l z).length<=l.length+1:=by
   unfold addN
   split
   ·omega
   ·rw[length_append,length_singleton]
    exact Nat.le_refl _
  show(addAll (addN l z) zs).length<=_
  rw[length_cons]
  omega
theorem Qj {g:Graph}(gok:GrOk g)(v:Nat):(touches g v).length<=3:=by
 unfold touches
 split
 ·show 1<=3
  decide
 ·rw[length_map]
  unfold Vawctb.linesAt
  rw[getD_eq_getElem?_getD]
  cases e:g.nodes[v]? with
  |none=>exact Nat.zero_le _
  |some l=>exact(gok.lines l (mem_of_getElem? e)).1
theorem Z3m (g:Graph)(v:Nat):touches g v≠[]:=by
 unfold touches
 split
 ·simp
 ·rename_i h
  intro q
  rw[List.map_eq_nil_iff]at q
  rw[q]at h
  exact h rfl
theorem Z8i (sh:Vawctb.Shape)(g:Graph)(wt:Option Nat)(l:List Vawctb.Seen)(s:Vawctb.Seen)(xs:List (Option Nat))(x:Option Nat):Ys sh g wt l s (xs++[x])=addAll (Ys sh g wt l s xs) (Zx sh g wt s x):=by
 unfold Ys
 rw[List.foldl_append]
 rfl
theorem Z2g (F:Fun K "all_moments" "all_moments" Ut f fd)(B:Blt mg)(T:TMoment K CM)(kI:#[57])(kK:#[48])(kL:#[58])(kB:#[59])(L:Cst mg "MOST_MOMENTS" 400) :
  FnOk P w K mg base CX0 5 f fd ["cache","graph","state","watched"] (spAM C CG CM):=by
 obtain⟨uL,mL,rL⟩:=L
 exists 0,Z2f
 ·obtain⟨p,q,st,sh,g,c,wt,rfl,hC,h0,hG,gok,hs,hc,k⟩:=h
  have hr1:Room 1 _:=hr.mono (by decide)
  have hu:=hr.units
  refine⟨_,Zb (#[0,4,Zv (Za (Wz kI #[2] (Za Zn (Za (pv 2) (Za Zcb (Za Yb (Za Yb Zc)))))) Zc)])
   (Zb (#[0,5,Zhs hu (Zs kK hr1 (Za (Yp Zy (pv 4) Zn (λ_ _=>rfl)) Zc)) Zcb])
   (Zb (#[0,6,Zn])
   (Zb (Je PassesOwn.never (Zo Z9q (pv 6) (#[6,Za (pv 4) Zc]) rfl)
    (Zb (#[0,7,Yp Zy (pv 4) (pv 6) (λ_ _=>rfl)])
    (Zb (Yy PassesOwn.never rfl (Yc (Zs kL hr1 (Za (pv 1) (Za (Zh (pv 7) rfl) Zc)))) (#[1,8])
     (Zd (Yy PassesOwn.never rfl (Yc (Zs kB hr (Za (pv 0) (Za (pv 1) (Za (pv 7) (Za (pv 8) (Za (pv 3) Zc))))))) (#[1,9])
      (Zd (Yh (Zo (Zad hu) (Zs kK hr1 (Za (pv 9) Zc)) (pv 5) rfl)
       (Zb (Z2u Zcb (Z2t (pv 5) (Zs kK hr1 (Za (pv 9) Zc)) (Zir hu)))
       (Zd (Xd (#[3,pv 4,Za (pv 9) Zc])))) Zr)))))
    (Zb (Yh (Zo Zgx (#[6,Za (pv 4) Zc]) (Zt rfl mL rL) rfl) (Zd (Zj Yb)) Zr)
    (Zd (#[0,6,Ym Xe (pv 6) Zn]))))))
   (Zd (Zj (pv 4)))))),?_⟩
  refine⟨_,rfl,λx dx nx nd ne=>⟨x,dx,_,rfl,rfl,Ze,λH1 f1 k1=>⟨rfl,(by show 1<=sizeLine;decide),λlm hlm=>?_⟩⟩⟩
  have s1:=Same.made nx nd k1
  have m1:MomAt CM H1 x {node:=0,stood:=false,cache:=c} []:=.first f1 ⟨rfl,rfl,rfl,rfl,rfl⟩ (hs.same s1)
  obtain⟨s2,f2⟩:=newE hlm (.lst [V.ref x])
  generalize upd H1 lm _=H2 at s2 f2 ⊢
  intro kd o hkd n0
  have s3:Same H2 (upd H2 kd o):=Zq hkd
  have nlk:lm≠kd:=Zm f2 hkd
  generalize upd H2 kd o=H3 at s3 n0 ⊢
  have f3:=s3 _ _ f2
  refine⟨_,rfl,lm,_,_,_,rfl,rfl,SqL.of f3,(Ya (j:=0) rfl:atI [V.ref x] 0=some (V.ref x)),x,_,_,rfl,(m1.same s2).same s3,λH4 b s4 kb=>⟨b,_,rfl,kb,n0.same s4,λo' n'=>?_⟩⟩
  have s04:=((s1.trans s2).trans s3).trans s4
  have hlm0:H lm=none:=s1.free hlm
  have hkd0:H kd=none:=(s1.trans s2).free hkd
  obtain⟨xs0,e0,_⟩:=n0.same s4
  have L0:Live P w CM H lm kd (upd H4 kd o') [{at_:={node:=0,stood:=false,cache:=c},way:=[]}]:=by
   refine⟨(chg s04 hkd0).1,?_,n'⟩
   have kp:Keep H4 (upd H4 kd o'):=(Keep.of (Same.refl H4)).ext e0
   refine Zgf (ys:=[V.ref x]) (by rw[Zk nlk];exact s4 _ _ f3) rfl λi y z ey ez=>?_
   cases i with
   |zero =>
    cases ey
    cases ez
    exact⟨x,rfl,(((m1.same s2).same s3).same s4).keep kp⟩
   |succ i=>simp at ez
  generalize upd H4 kd o'=H5 at L0 ⊢
  have g0:SGood sh g [{at_:={node:=0,stood:=false,cache:=c},way:=[]}]:=by
   refine⟨λi s e=>?_,nodup_cons.mpr ⟨not_mem_nil,nodup_nil⟩⟩
   cases i with
   |zero =>
    cases e
    exact⟨gok.pos,hc,Nat.le_refl _⟩
   |succ i=>simp at e
  refine⟨λm σ H'=>∃(i:Nat) (l:List Vawctb.Seen) (v7 v8 v9:Option V),σ=[some (.ref p),some (.ref q),some (.ref st),some (optV wt),some (.ref lm),some (.ref kd),some (.int (i:Int)),v7,v8,v9]/\Live P w CM H lm kd H' l/\SGood sh g l/\i<=l.length/\l.length<=400/\Vawctb.moments sh g wt c=Vawctb.goThrough sh g wt (401-i) i l/\m=401-i,
   ⟨401,0,_,none,none,none,rfl,L0,g0,Nat.zero_le _,Nat.le_add_left 1 399,rfl,rfl⟩,?_⟩
  rintro m σ H' ⟨i,l,v7,v8,v9,rfl,lv,sg,hil,hl4,hmo,hm⟩
  obtain⟨as,a1,a2,a3⟩:=id lv.moms
  refine⟨_,rfl,_,rfl,lm,_,rfl,.inl (SqL.of a1),_,_,rfl,rfl,_,rfl,?_⟩
  show if decide ((i:Int)<(((as.map V.ref).length:Nat):Int))=true then _ else _
  rw[length_map,a2]
  refine ite2 (λz=>?_) λz=>?_
  ·have hlt:i<l.length:=by
    have:=of_decide_eq_true z
    omega
   obtain⟨sn,hsn⟩:∃sn,l[i]?=some sn:=⟨_,getElem?_eq_getElem hlt⟩
   obtain⟨a,ha⟩:∃a,as[i]?=some a:=⟨_,getElem?_eq_getElem (by omega)⟩
   have ma:=a3 i a sn ha hsn
   obtain⟨hnode,hcok,_⟩:=sg.ok i sn hsn
   have eGo:Vawctb.moments sh g wt c=if(Ys sh g wt l sn (touches g sn.at_.node)).length<=400 then Vawctb.goThrough sh g wt (401-(i+1)) (i+1) (Ys sh g wt l sn (touches g sn.at_.node)) else none:=by
    rw[hmo,show 401-i=(401-(i+1))+1 by omega,Zaf hsn hl4]
   refine⟨λσ' H''=>∃(l':List Vawctb.Seen) (v7 v8 v9:Option V),σ'=[some (.ref p),some (.ref q),some (.ref st),some (optV wt),some (.ref lm),some (.ref kd),some (.int ((i+1:Nat):Int)),v7,v8,v9]/\Live P w CM H lm kd H'' l'/\SGood sh g l'/\i+1<=l'.length/\l'.length<=400/\Vawctb.moments sh g wt c=Vawctb.goThrough sh g wt (401-(i+1)) (i+1) l',?_,?_⟩
   ·rintro σ' H'' ⟨l',w7,w8,w9,rfl,lv',sg',h1,h2,h3⟩
    exact⟨401-(i+1),by omega,i+1,l',w7,w8,w9,rfl,lv',sg',h1,h2,h3,rfl⟩
   ·refine⟨_,rfl,_,rfl,lm,_,_,V.ref a,rfl,rfl,SqL.of a1,Ya (by rw[getElem?_map,ha];rfl),?_⟩
    obtain⟨dxm,fsm,qm,bm,lnm,g1,g2,g3⟩:=ma.fields
    refine⟨_,rfl,_,rfl,a,CM,dxm,fsm,_,rfl,g1,T.cl,T.node,g2.node,q,g,_,rfl,hG.same lv.same,hnode,λH6 lt s6 f6=>⟨lt,rfl,⟨_,SqL.of f6⟩,?_⟩⟩
    have lv6:=lv.on s6
    have hlt3:=Qj gok sn.at_.node
    have nlt:lt≠lm:=by
     obtain⟨as6,b1,b2,_⟩:=lv6.moms
     refine Xl f6 b1 λq=>?_
     have q':=HO.lst.inj q
     have hne:=Z3m g sn.at_.node
     cases tt:touches g sn.at_.node with
     |nil=>exact hne tt
     |cons u us =>
      rw[tt]at q'
      cases as6 with
      |nil=>cases q'
      |cons _ _ =>
       rw[List.map_cons,List.map_cons]at q'
       have:=(List.cons.inj q').1
       cases u <;> cases this
    have nlt2:lt≠kd:=by
     obtain⟨xs6,b1,_⟩:=lv6.keys
     exact Xl f6 b1 (by intro q;cases q)
    refine Xk (K:=K) (a:=lt) (xs:=(touches g sn.at_.node).map optV) (λj σ H''=>∃(v8 v9:Option V),σ=[some (.ref p),some (.ref q),some (.ref st),some (optV wt),some (.ref lm),some (.ref kd),some (.int (i:Int)),some (.ref a),v8,v9]/\Live P w CM H lm kd H'' (Ys sh g wt l sn ((touches g sn.at_.node).take j))/\H'' lt=some (.lst ((touches g sn.at_.node).map optV))/\MomAt CM H'' a sn.at_ sn.way/\(Ys sh g wt l sn ((touches g sn.at_.node).take j)).length<=400+24*j)
     ⟨v8,v9,rfl,lv6,f6,ma.same s6,by show l.length<=_;omega⟩ (λj σ H'' _ ⟨_,_,_,_,e,_⟩=>SqL.of e) ?_ ?_
    ·rintro j y σ H7 hj ⟨w8,w9,rfl,lv7,f7,ma7,hle7⟩
     rw[getElem?_map]at hj
     obtain⟨x,hx,rfl⟩:=Option.map_eq_some_iff.mp hj
     have eS:=Z8i sh g wt l sn ((touches g sn.at_.node).take j) x
     rw[<-Zw hx]at eS
     generalize Ys sh g wt l sn ((touches g sn.at_.node).take j)=lj at lv7 hle7 eS
     refine⟨_,rfl,_,rfl,_,rfl,_,rfl,_,rfl,p,q,a,sh,g,sn,x,wt,rfl,hC.same lv7.same,h0,hG.same lv7.same,gok,ma7,hcok,λH8 tb ntb s8 mb=>?_⟩
     have lv8:=lv7.on s8
     have nb1:tb≠lm:=by
      obtain⟨as7,b1,_⟩:=lv7.moms
      exact λq=>Zm b1 ntb q.symm
     have nb2:tb≠kd:=by
      obtain⟨xs7,b1,_⟩:=lv7.keys
      exact λq=>Zm b1 ntb q.symm
     obtain⟨bs,c1,c2,c3⟩:=id mb
     have hbl:(Zx sh g wt sn x).length<=24:=by
      unfold Zx
      rw[length_map]
      exact Sx gok sn.at_.node
     have hjl:=(gse.mp hx).1
     refine⟨tb,rfl,⟨_,SqL.of c1⟩,Xk (K:=K) (a:=tb) (xs:=bs.map V.ref) (λn σ H''=>∃v9:Option V,σ=[some (.ref p),some (.ref q),some (.ref st),some (optV wt),some (.ref lm),some (.ref kd),some (.int (i:Int)),some (.ref a),some (optV x),v9]/\Live P w CM H lm kd H'' (addAll lj ((Zx sh g wt sn x).take n))/\But2 lm kd H8 H'')
      ⟨w9,rfl,lv8,But2.of (Same.refl H8)⟩ (λn σ H'' _ ⟨_,_,_,bt⟩=>SqL.of (bt _ _ c1 nb1 nb2)) ?_ ?_⟩
     ·rintro n y σ H9 hn ⟨w9,rfl,lv9,bt9⟩
      obtain⟨b,hb,rfl⟩:=Yw hn
      obtain⟨zn,hzn⟩:∃zn,(Zx sh g wt sn x)[n]?=some zn:=⟨_,getElem?_eq_getElem (by have:=(gse.mp hb).1;omega)⟩
      have mzn:=(c3 n b zn hb hzn).keep (bt9.keep lv8)
      have eA:=Zam lj ((Zx sh g wt sn x).take n) zn
      rw[<-Zw hzn]at eA
      have hle9:=Z1a ((Zx sh g wt sn x).take n) lj
      rw[length_take]at hle9
      generalize addAll lj ((Zx sh g wt sn x).take n)=lk at lv9 eA hle9
      refine⟨_,rfl,b,_,_,rfl,mzn,λH10 kb s10 hk10=>?_⟩
      have lv10:=lv9.on s10
      refine⟨_,rfl,kb,kd,_,_,rfl,rfl,hk10,lv10.keys,_,rfl,?_⟩
      show if(!(valV (Rk lk) zn.at_).isSome)=true then _ else _
      rw[Zc4]
      refine ite2 (λy=>?_) λy=>?_
      ·have hnew:lk.any (λz=>z.at_==zn.at_)=false:=by
        cases q:lk.any (λz=>z.at_==zn.at_) with
        |false=>rfl
        |true =>
         rw[q]at y
         cases y
       have hadd:addN lk zn=lk++[zn]:=by
        unfold addN
        rw[if_neg (by rw[hnew];exact Bool.false_ne_true)]
       refine⟨_,rfl,_,rfl,b,_,_,rfl,mzn.same s10,λH11 kb2 s11 hk11=>?_⟩
       have lv11:=lv10.on s11
       refine⟨kd,kb2,_,_,rfl,rfl,hk11,lv11.keys,by unfold Rk;rw[length_map];omega,λo' n'=>?_⟩
       obtain⟨t1,t2,t3⟩:=lv11.key (s:=zn) hlm0 hkd0 hnew n'
       have bt12:But2 lm kd H8 (upd H11 kd o'):=λcc oo ee n1 n2=>by
        rw[Zk n2]
        exact s11 _ _ (s10 _ _ (bt9 cc oo ee n1 n2))
       have mz12:MomAt CM (upd H11 kd o') b zn.at_ zn.way:=by
        obtain⟨xs11,e11,_⟩:=lv11.keys
        exact((mzn.same s10).same s11).keep ((Keep.of (Same.refl H11)).ext e11)
       generalize upd H11 kd o'=H12 at t1 t2 t3 bt12 mz12 ⊢
       obtain⟨ys,y1,y2,y3⟩:=t2.snoc mz12
       refine⟨_,rfl,.inl ⟨rfl,_,SqL.of y1⟩,_,rfl,lm,_,_,rfl,rfl,y1,Zg (by omega),?_⟩
       refine⟨_,rfl,⟨(chg t1 hlm0).1,?_,?_⟩,λcc oo ee n1 n2=>by rw[Zk n1];exact bt12 cc oo ee n1 n2⟩
       ·rw[eA,hadd]
        exact y3
       ·rw[eA,hadd]
        exact t3.tups (Zk (Ne.symm nlk)) ((Keep.of (Same.refl H12)).lst y1).tup
      ·have hold:lk.any (λz=>z.at_==zn.at_)=true:=by
        cases q:lk.any (λz=>z.at_==zn.at_) with
        |true=>rfl
        |false =>
         rw[q]at y
         exact absurd rfl y
       refine⟨_,rfl,?_,bt9.trans (But2.of s10)⟩
       rw[eA,Zbz hold]
       exact lv10
     ·rintro σ H9 ⟨w9,rfl,lv9,bt9⟩
      rw[length_map,c2,take_length]at lv9
      have hle9:=Z1a (Zx sh g wt sn x) lj
      refine⟨_,_,rfl,?_,bt9 _ _ (s8 _ _ f7) nlt nlt2,(ma7.same s8).keep (bt9.keep lv8),?_⟩
      ·rw[eS]
       exact lv9
      ·rw[eS]
       omega
    ·rintro σ H7 ⟨w8,w9,rfl,lv7,f7,ma7,hle7⟩
     rw[length_map,take_length]at lv7 hle7
     obtain⟨as7,d1,d2,_⟩:=id lv7.moms
     have hge:=Z3j sh g wt sn (touches g sn.at_.node) l
     have sg7:=SGood.step (wt:=wt) h0.pos gok (touches g sn.at_.node) sg hsn λ_ h=>h
     generalize Ys sh g wt l sn (touches g sn.at_.node)=l7 at lv7 hle7 eGo d2 hge sg7
     refine⟨_,rfl,lm,_,rfl,.inl (SqL.of d1),_,_,rfl,rfl,_,rfl,?_⟩
     show if decide ((400:Int)<(((as7.map V.ref).length:Nat):Int))=true then _ else _
     rw[length_map,d2]
     refine ite2 (λy=>?_) λy=>?_
     ·have:=of_decide_eq_true y
      rw[if_neg (by omega)]at eGo
      refine k H7 _ lv7.same ?_
      rw[eGo]
      exact rfl
     ·have y':l7.length<=400:=by
       have:¬(400:Int)<(l7.length:Int):=λq=>y (decide_eq_true q)
       omega
      rw[if_pos y']at eGo
      exact⟨_,rfl,_,_,rfl,rfl,l7,some (.ref a),w8,w9,rfl,lv7,sg7,by omega,y',eGo⟩
  ·have hge:l.length<=i:=by
    have:¬(i:Int)<(l.length:Int):=λq=>z (decide_eq_true q)
    omega
   refine⟨_,rfl,k H' _ lv.same ?_⟩
   rw[hmo,Zgd (getElem?_eq_none hge)]
   exact⟨lm,rfl,lv.moms⟩
end
noncomputable def WRel (H:Hp)(a:Addr)(z:Nat×Nat):Prop:=∃x:Option Nat,z.2=Vawctb.mark x/\H a=some (.tup [.int (z.1:Int),optV x])
noncomputable def WayAt (H:Hp)(t:Addr)(wy:Vawctb.Way):Prop:=∃as:List Addr,H t=some (.lst (as.map V.ref))/\Paired (WRel H) as wy
theorem WRel.keep {H H':Hp}{a:Addr}{z:Nat×Nat}(h:WRel H a z)(k:Keep H H'):WRel H' a z:=by
 obtain⟨x,e,h⟩:=h
 exact⟨x,e,k.tup _ _ h⟩
theorem WayAt.same {H H':Hp}{t:Addr}{wy:Vawctb.Way}(h:WayAt H t wy)(s:Same H H'):WayAt H' t wy:=by
 obtain⟨as,h1,h2⟩:=h
 exact⟨as,s _ _ h1,Paired.mapP h2 λa z q=>q.keep (Keep.of s)⟩
theorem Z3n {α β:Type}{R:α->β->Prop}:∀{l:List α} {m:List β},Paired R l m->Paired R l.reverse m.reverse
 |_,_,.nil=>.nil
 |_,_,.cons h t=>by
  rw[List.reverse_cons,List.reverse_cons]
  exact Paired.snoc (Z3n t) h
noncomputable section
variable {P:Program}{w:World}{K:W.Frag}{mg:Str->Option Value}{base:Heap}{C CG CM f:Addr}{fd:FuncData}
noncomputable def spWT (CM:Addr):Sp:=λvs H Q _=>∃(p:Addr) (m:Moment) (wy:Vawctb.Way),vs=[.ref p]/\MomAt CM H p m wy/\wy.length<=400/\∀(H':Hp) (t:Addr),Same H H'->WayAt H' t wy->Q (.ref t) H'
theorem Zgi:FnScope ["moment","backwards"] ["moment"] (Zf Z5n):=#[5]
theorem Zgj (F:Fun K "way_to" "way_to" Z5n f fd)(B:Blt mg)(nR:mg "reversed"=none)(T:TMoment K CM):FnOk P w K mg base CX0 1 f fd ["moment"] (spWT CM):=by
 exists 0,Zgi
 ·obtain⟨p,m,wy,rfl,hM,hz,k⟩:=h
  refine⟨_,Zb (#[0,1,Zv Zc])
   (Zb (Je PassesOwn.never (Zo Z9r (Zh (pv 0) rfl) Yb rfl)
    (Zb (Xd (#[3,pv 1,Za (Pc (Za (Zh (Zh (pv 0) rfl) rfl) (Za (Zh (pv 0) rfl) Zc))) Zc]))
    (Zd (#[0,0,Zh (pv 0) rfl]))))
   (Zd (Zj (Zd6 rfl rfl B.n_list rfl nR (Za (pv 1) Zc))))),?_⟩
  refine⟨Nat.zero_le _,λlb hlb=>?_⟩
  obtain⟨s1,f1⟩:=newE hlb (.lst [])
  generalize upd H lb _=H1 at s1 f1 ⊢
  refine⟨λn σ H'=>∃(p':Addr) (m':Moment) (w' done:Vawctb.Way) (bs:List Addr),σ=[some (.ref p'),some (.ref lb)]/\Same H H'/\MomAt CM H' p' m' w'/\wy=w'++done/\H' lb=some (.lst (bs.map V.ref))/\Paired (WRel H') bs done.reverse/\n=w'.length,
   ⟨_,p,m,wy,[],[],rfl,s1,hM.same s1,(append_nil wy).symm,f1,.nil,rfl⟩,?_⟩
  rintro n σ H2 ⟨p',m',w',done,bs,rfl,s2,M2,ew,f2,pr,en⟩
  cases M2 with
  |@first _ dx q fs _ h1 h2 h3 =>
   refine⟨_,rfl,p',CM,dx,fs,_,rfl,h1,T.cl,T.before,h2.before,rfl,_,rfl,iteF ?_⟩
   have hl:bs.length<=400:=by
    have e:=Paired.length pr
    rw[length_reverse]at e
    rw[ew,length_append]at hz
    omega
   refine⟨_,rfl,lb,_,rfl,SqL.of f2,by rw[length_map];omega,λt ht=>k _ t (s2.trans (Zq ht)) ⟨bs.reverse,?_,?_⟩⟩
   ·rw[Ze,List.map_reverse]
   ·have pr':=Z3n pr
    rw[List.reverse_reverse]at pr'
    rw[ew]
    exact Paired.mapP pr' λa z h=>h.keep (Keep.of (Zq ht))
  |@next _ dx q b fs _ mb wb x h1 h2 h3 hb =>
   refine⟨_,rfl,p',CM,dx,fs,_,rfl,h1,T.cl,T.before,h2.before,rfl,_,rfl,iteT ⟨λσ' H''=>∃(bs:List Addr),σ'=[some (.ref b),some (.ref lb)]/\Same H H''/\MomAt CM H'' b mb wb/\H'' lb=some (.lst (bs.map V.ref))/\Paired (WRel H'') bs ((mb.node,Vawctb.mark x)::done).reverse,?_,?_⟩⟩
   ·rintro σ' H'' ⟨bs',rfl,s',M',f',pr'⟩
    refine⟨wb.length,?_,b,mb,wb,(mb.node,Vawctb.mark x)::done,bs',rfl,s',M',?_,f',pr',rfl⟩
    ·rw[en,length_append,length_singleton]
     omega
    ·rw[ew,append_assoc]
     rfl
   ·obtain⟨dxb,fsb,qb,bb,lb',g1,g2,g3⟩:=hb.fields
    have hl:bs.length<=400:=by
     have e:=Paired.length pr
     rw[length_reverse]at e
     rw[ew,length_append]at hz
     omega
    refine⟨_,rfl,.inl ⟨rfl,_,SqL.of f2⟩,_,rfl,p',CM,dx,fs,_,rfl,h1,T.cl,T.before,h2.before,b,CM,dxb,fsb,_,rfl,g1,T.cl,T.node,g2.node,_,rfl,p',CM,dx,fs,_,rfl,h1,T.cl,T.line,h2.line,(by show 2<=sizeLine;decide),λt ht=>?_⟩
    obtain⟨s3,f3⟩:=newE ht (.tup [.int (mb.node:Int),optV x])
    generalize upd H2 t _=H3 at s3 f3 ⊢
    refine⟨lb,_,_,rfl,rfl,s3 _ _ f2,Zg (by rw[length_map];omega),?_⟩
    have kp:Keep H3 (upd H3 lb (.lst (bs.map V.ref++[V.ref t]))):=(Keep.of (Same.refl H3)).lst (s3 _ _ f2)
    have s4:=(chg (o:=.lst (bs.map V.ref++[V.ref t])) (s2.trans s3) hlb).1
    refine⟨_,rfl,p',CM,dx,fs,_,rfl,kp.ins (s3 _ _ h1),T.cl,T.before,h2.before,bs++[t],rfl,s4,(hb.same s3).keep kp,?_,?_⟩
    ·rw[Ze,map_append]
     rfl
    ·rw[List.reverse_cons]
     exact Paired.snoc (Paired.mapP pr λa z h=>(h.keep (Keep.of s3)).keep kp) ⟨x,rfl,kp.tup _ _ f3⟩
end
noncomputable def WayV (H:Hp)(v:V)(o:Option Vawctb.Way):Prop:=match o with
 |none=>v=.non
 |some wy=>∃t,v=.ref t/\WayAt H t wy
noncomputable def Z8j (sh:Vawctb.Shape)(g:Graph)(v:Nat)(hit:Bool)(s:Vawctb.Seen):Option Vawctb.Way:=((Vawctb.linesAt g v).find? λx=>Vawctb.hits sh s.at_.cache x==hit).map λx=>s.way++[(v,x+1)]
theorem Qk (sh:Vawctb.Shape)(g:Graph)(l:List Vawctb.Seen)(v:Nat)(hit:Bool):wayWhere sh g l v hit=(momentsAt l v).findSome? (Z8j sh g v hit):=rfl
theorem Z1b {α β:Type}{f:α->Option β}{y:β}:∀{l:List α} {i:Nat} {x:α},l[i]?=some x->(l.take i).findSome? f=none->f x=some y->l.findSome? f=some y
 |[],i,x,h,_,_=>by simp at h
 |a::l,0,x,h,_,e=>by
  cases h
  rw[List.findSome?_cons,e]
 |a::l,i+1,x,h,hn,e=>by
  rw[List.take_succ_cons,List.findSome?_cons]at hn
  cases q:f a with
  |some z =>
   rw[q]at hn
   cases hn
  |none =>
   rw[q]at hn
   rw[List.findSome?_cons,q]
   exact Z1b (i:=i) h hn e
theorem Zgk {α:Type}{p:α->Bool}:∀{l:List α} {i:Nat} {x:α},l[i]?=some x->(l.take i).find? p=none->p x=true->l.find? p=some x
 |[],i,x,h,_,_=>by simp at h
 |a::l,0,x,h,_,e=>by
  cases h
  rw[List.find?_cons,e]
 |a::l,i+1,x,h,hn,e=>by
  rw[List.take_succ_cons,List.find?_cons]at hn
  cases q:p a with
  |true =>
   rw[q]at hn
   cases hn
  |false =>
   rw[q]at hn
   rw[List.find?_cons,q]
   exact Zgk (i:=i) h hn e
noncomputable section
variable {P:Program}{w:World}{K:W.Frag}{mg:Str->Option Value}{base:Heap}{C CG CM f:Addr}{fd:FuncData}
noncomputable def spFW (C CG CM:Addr):Sp:=λvs H Q _=>∃(p q t:Addr) (sh:Vawctb.Shape) (g:Graph) (l:List Vawctb.Seen) (v:Nat) (hit:Bool),vs=[.ref p,.ref q,.ref t,.int (v:Int),.bl hit]/\CacheAt C H p sh/\ShOk sh/\GraphAt CG H q g/\GrOk g/\MomsAt CM H t l/\SGood sh g l/\l.length<=400/\v<g.nodes.length/\
 ∀(H':Hp) (r:V),Same H H'->WayV H' r (wayWhere sh g l v hit)->Q r H'
theorem Z8k:FnScope ["cache","graph","moments","node","wanted","moment","line"] ["cache","graph","moments","node","wanted"] (Zf Qi):=#[5]
theorem Rl {sh:Vawctb.Shape}{g:Graph}{l:List Vawctb.Seen}(h:SGood sh g l)(hl:l.length<=400){v i:Nat}{s:Vawctb.Seen}(e:(momentsAt l v)[i]?=some s):s∈l/\s.at_.node=v/\CaOk sh s.at_.cache/\s.way.length<=399:=by
 have hm:=mem_of_getElem? e
 unfold momentsAt at hm
 obtain⟨h1,h2⟩:=List.mem_filter.mp hm
 obtain⟨j,hj⟩:=mem_iff_getElem?.mp h1
 obtain⟨_,h3,h4⟩:=h.ok j s hj
 have:=(gse.mp hj).1
 exact⟨h1,eq_of_beq h2,h3,by omega⟩
theorem Z8l (F:Fun K "first_way" "first_way" Qi f fd)(TM:TMoment K CM)(TG:TGraph K CG)(kA:#[45])(kH:#[43])(kW:#[82]) :
  FnOk P w K mg base CX0 2 f fd ["cache","graph","moments","node","wanted"] (spFW C CG CM):=by
 exists 0,Z8k
 ·obtain⟨p,q,t,sh,g,l,v,hit,rfl,hC,h0,hG,gok,hM,sg,hz,hv,k⟩:=h
  refine⟨_,Zb (Yy PassesOwn.never rfl (Yc (Zs kA hr (Za (pv 2) (Za (pv 3) Zc)))) (#[1,5])
    (Zd (Yy PassesOwn.never rfl (Yc (Yp Zy (Zh (pv 1) rfl) (pv 3) (λ_ _=>rfl))) (#[1,6])
     (Zd (Yh (Zo Ro (Zs kH hr (Za (pv 0) (Za (Zh (pv 5) rfl) (Za (pv 6) Zc)))) (pv 4) rfl)
      (Zd (Zj (Ym Pe (Zs kW hr (Za (pv 5) Zc)) (Zv (Za (Pc (Za (pv 3) (Za (pv 6) Zc))) Zc))))) Zr)))))
   (Zd (Zj Yb)),?_⟩
  refine⟨_,rfl,_,rfl,t,l,v,rfl,hM,hz,λH1 u s1 m1=>?_⟩
  have hml:=Xv l v
  rw[Qk]at k
  have hgood:∀{i:Nat} {s:Vawctb.Seen},(momentsAt l v)[i]?=some s->_:=λe=>Rl sg hz e
  generalize momentsAt l v=lv at m1 k hml hgood
  obtain⟨as,a1,a2,a3⟩:=m1
  obtain⟨dx,fs,ll,xs,la,e1,e2,e3,e4,e5,e6⟩:=hG.lines_at hv
  refine⟨u,rfl,⟨_,SqL.of a1⟩,Xk (K:=K) (a:=u) (xs:=as.map V.ref) (λi σ H'=>∃v5 v6:Option V,σ=[some (.ref p),some (.ref q),some (.ref t),some (.int (v:Int)),some (.bl hit),v5,v6]/\Same H1 H'/\(lv.take i).findSome? (Z8j sh g v hit)=none)
   ⟨none,none,rfl,Same.refl H1,rfl⟩ (λi σ H' _ ⟨_,_,_,s2,_⟩=>SqL.of (s2 _ _ a1)) ?_ ?_⟩
  ·rintro i y σ H2 hi ⟨v5,v6,rfl,s2,hno⟩
   obtain⟨a,ha,rfl⟩:=Yw hi
   obtain⟨z,hzi⟩:∃z,lv[i]?=some z:=⟨_,getElem?_eq_getElem (by have:=(gse.mp ha).1;omega)⟩
   obtain⟨_,hzn,hzc,hzw⟩:=hgood hzi
   have ma:=(a3 i a z ha hzi).same s2
   have s12:=s1.trans s2
   refine⟨_,rfl,q,CG,dx,fs,_,rfl,s12 _ _ e1,TG.cl,TG.lines,e2,_,rfl,ll,xs,_,_,rfl,rfl,SqL.of (s12 _ _ e3),Ya e5,la,rfl,⟨_,SqL.of (s12 _ _ e6)⟩,?_⟩
   refine Xk (K:=K) (a:=la) (xs:=Zl (Vawctb.linesAt g v)) (λj σ H'=>∃v6:Option V,σ=[some (.ref p),some (.ref q),some (.ref t),some (.int (v:Int)),some (.bl hit),some (.ref a),v6]/\H'=H2/\((Vawctb.linesAt g v).take j).find? (λx=>Vawctb.hits sh z.at_.cache x==hit)=none)
    ⟨v6,rfl,rfl,rfl⟩ (λj σ H' _ ⟨_,_,e,_⟩=>by rw[e];exact SqL.of (s12 _ _ e6)) ?_ ?_
   ·rintro j y σ H' hj ⟨w6,rfl,rfl,hnj⟩
    obtain⟨x,hx,rfl⟩:=Yr hj
    obtain⟨dm,fm,qm,bm,lm,g1,g2,g3⟩:=ma.fields
    refine⟨_,rfl,_,rfl,a,CM,dm,fm,_,rfl,g1,TM.cl,TM.state,g2.state,_,rfl,p,qm,sh,_,x,rfl,hC.same s12,h0,g3,hzc.len,_,rfl,rfl,_,rfl,?_⟩
    show if decide (V.bl (Vawctb.hits sh z.at_.cache x)=V.bl hit)=true then _ else _
    rw[Ze3]
    refine ite2 (λe=>?_) λe=>?_
    ·refine⟨_,rfl,a,_,_,rfl,ma,by omega,λH3 tw s3 w3=>?_⟩
     obtain⟨bs,b1,b2⟩:=w3
     refine⟨_,rfl,_,rfl,(by show 2<=sizeLine;decide),λt4 ht4=>?_⟩
     obtain⟨s4,f4⟩:=newE ht4 (.tup [.int (v:Int),.int (x:Int)])
     generalize upd H3 t4 _=H4 at s4 f4 ⊢
     refine⟨(by show 1<=sizeLine;decide),λt5 ht5=>?_⟩
     obtain⟨s5,f5⟩:=newE ht5 (.lst [V.ref t4])
     generalize upd H4 t5 _=H5 at s5 f5 ⊢
     have hbl:=Paired.length b2
     refine⟨tw,t5,_,_,rfl,rfl,s5 _ _ (s4 _ _ b1),f5,Nat.le_of_lt (Zg (by rw[length_map,hbl];show _+1<=_;omega)),λt6 ht6=>?_⟩
     have s6:Same H5 (upd H5 t6 (.lst (bs.map V.ref++[V.ref t4]))):=Zq ht6
     refine k _ _ ((((s12.trans s3).trans s4).trans s5).trans s6) ?_
     have ew:lv.findSome? (Z8j sh g v hit)=some (z.way++[(v,x+1)]):=Z1b hzi hno (by
      unfold Z8j
      rw[Zgk hx hnj e]
      rfl)
     rw[ew]
     refine⟨t6,rfl,bs++[t4],by rw[Ze,map_append];rfl,Paired.snoc (Paired.mapP b2 λa z h=>((h.keep (Keep.of s4)).keep (Keep.of s5)).keep (Keep.of s6)) ⟨some x,rfl,s6 _ _ (s5 _ _ f4)⟩⟩
    ·refine⟨_,rfl,rfl,?_⟩
     rw[Zw hx,List.find?_append,hnj,List.find?_cons,Bool.eq_false_iff.mpr e]
     rfl
   ·rintro σ H' ⟨w6,rfl,rfl,hnj⟩
    rw[Zi,take_length]at hnj
    refine⟨_,_,rfl,s2,?_⟩
    rw[Zw hzi,List.findSome?_append,hno]
    show [z].findSome? (Z8j sh g v hit)=none
    rw[List.findSome?_cons]
    unfold Z8j
    rw[hnj]
    rfl
  ·rintro σ H2 ⟨v5,v6,rfl,s2,hno⟩
   rw[length_map,a2,take_length]at hno
   refine k H2 _ (s1.trans s2) ?_
   rw[hno]
   rfl
end
end Sl
namespace Sl
open PySem PySem.Spec PyProof.Rows L2
open Vawctb (Ages ageIn)
abbrev We:Stmt:=top 55
abbrev Z1c:Stmt:=top 56
abbrev Xw:Stmt:=top 57
abbrev Sc:Stmt:=top 58
abbrev Vv:Stmt:=top 59
noncomputable def clsB (sh:Vawctb.Shape)(ls:List Nat)(o:Option Bounds):Nat :=
 if ls.isEmpty then 0 else match o with
 |none=>4
 |some b=>if ls.all (λx=>isLocked sh x||(ageIn b.sure x).isSome) then 1 else if ls.all (λx=>!isLocked sh x&&(ageIn b.maybe x).isNone) then 2 else 3
noncomputable def Zgl (CB:Addr)(H:Hp)(v:V)(o:Option Bounds):Prop:=match o with
 |none=>v=.non
 |some b=>∃r,v=.ref r/\BoundsAt CB H r b
structure ClsC (mg:Str->Option Value):Prop where
 c0:Cst mg "NO_LINES" 0
 c1:Cst mg "ALWAYS_HIT" 1
 c2:Cst mg "ALWAYS_MISS" 2
 c3:Cst mg "NEITHER" 3
 c4:Cst mg "NOT_COME_TO_classes" 4
noncomputable section
variable {P:Program}{w:World}{K:W.Frag}{mg:Str->Option Value}{base:Heap}{C CB CG CM f:Addr}{fd:FuncData}
noncomputable def spCB (C CB:Addr):Sp:=λvs H Q _=>∃(p a:Addr) (bv:V) (sh:Vawctb.Shape) (ls:List Nat) (o:Option Bounds),vs=[.ref p,.ref a,bv]/\CacheAt C H p sh/\ShOk sh/\H a=some (.lst (Zl ls))/\ls.length<=3/\Zgl CB H bv o/\
 ∀(H':Hp),Same H H'->Q (.int (clsB sh ls o:Nat)) H'
theorem Ob:FnScope ["cache","lines","bounds","line"] ["cache","lines","bounds"] (Zf We):=#[5]
theorem Zlc {C:Addr}{H:Hp}{d:Addr}{ages:Ages}(hd:DictAt H d (ageIn ages))(x:Nat):∃kvs,H d=some (.dK kvs)/\(valV kvs (Sum.inl (x:Int))).isSome=(ageIn ages x).isSome:=by
 obtain⟨kvs,h1,h2⟩:=hd
 refine⟨kvs,h1,?_⟩
 rw[h2.get x]
 cases ageIn ages x <;> rfl
theorem Oc (F:Fun K "class_by_bounds" "class_by_bounds" We f fd)(B:Blt mg)(TC:TCache K C)(TB:TBounds K CB)(L:ClsC mg):FnOk P w K mg base CX0 1 f fd ["cache","lines","bounds"] (spCB C CB):=by
 obtain⟨⟨u0,m0,r0⟩,⟨u1,m1,r1⟩,⟨u2,m2,r2⟩,⟨u3,m3,r3⟩,⟨u4,m4,r4⟩⟩:=L
 exists 0,Ob
 ·obtain⟨p,a,bv,sh,ls,o,rfl,hC,h0,ha,hz,hB,k⟩:=h
  have hu:=Z4d hr
  refine⟨_,Zb (Yh (Zo Ro (#[6,Za (pv 1) Zc]) Zn rfl) (Zd (Zj (Zt rfl m0 r0))) Zr)
   (Zb (Yh (Zo Xp (pv 2) Yb rfl) (Zd (Zj (Zt rfl m4 r4))) Zr)
   (Zb (Yh (Xf (Yi (Z2x rfl) rfl B.n_all Z3b (Za (Ti (te:=tOrV (tDIn (tVar 3) (tFld K (tVar 2) "sure")) (tOp (rIn K false) (tVar 3) (tFld K (tVar 0) "locked"))) (own:=[("line",3)]) rfl SC.nd (Yc (pv 1)) (Yd rfl) (λ_ _ _ _ _=>#[1,3]) (λ_ _ _ _ _=>Yv)
     (λ_ _ _ _ _=>Zgw (Zi7 (Z6y hu (pv 3) (Zh (pv 2) rfl)) rfl) (Jn (Xx Xh (pv 3) (Zh (pv 0) rfl) rfl)))) Zc))) (Zd (Zj (Zt rfl m1 r1))) Zr)
   (Zb (Yh (Wh (Xf (Yi (Zid rfl) rfl B.n_any Zil (Za (Ti (te:=tOrV (tDIn (tVar 3) (tFld K (tVar 2) "possible")) (tOp (rIn K false) (tVar 3) (tFld K (tVar 0) "locked"))) (own:=[("line",3)]) rfl SC.nd (Yc (pv 1)) (Yd rfl) (λ_ _ _ _ _=>#[1,3]) (λ_ _ _ _ _=>Yv)
     (λ_ _ _ _ _=>Zgw (Zi7 (Z6y hu (pv 3) (Zh (pv 2) rfl)) rfl) (Jn (Xx Xh (pv 3) (Zh (pv 0) rfl) rfl)))) Zc)))) (Zd (Zj (Zt rfl m2 r2))) Zr)
   (Zd (Zj (Zt rfl m3 r3)))))),?_⟩
  obtain⟨dx,fs,h1,h2⟩:=id hC
  obtain⟨la,hla,hlk⟩:=h2.locked
  refine⟨_,rfl,a,_,rfl,.inl (SqL.of ha),rfl,_,rfl,?_⟩
  show if decide (V.int ((Zl ls).length:Int)=V.int ((0:Nat):Int))=true then _ else _
  rw[Xm,Zi]
  unfold clsB at k
  refine ite2 (λz=>?_) λz=>?_
  ·rw[if_pos (by rw[isEmpty_iff];exact List.length_eq_zero_iff.mp (of_decide_eq_true z))]at k
   exact k H (Same.refl H)
  rw[if_neg (by rw[isEmpty_iff];intro q;rw[q]at z;exact z rfl)]at k
  refine⟨_,rfl,rfl,_,rfl,?_⟩
  cases o with
  |none =>
   have hB:bv=.non:=hB
   subst hB
   exact k H (Same.refl H)
  |some b =>
   obtain⟨r,rfl,hb⟩:=hB
   refine iteF ?_
   refine⟨_,rfl,a,rfl,⟨_,SqL.of ha⟩,λD hD=>?_⟩
   refine Ub ((ls.map λx=>(ageIn b.sure x).isSome||isLocked sh x).map V.bl) (by rw[length_map,length_map,Zi]) hD (SqL.of ha) (Zg (by rw[Zi];omega)) (λi x H' R hi s1 hR=>?_) λH1 s1 f1=>?_
   ·obtain⟨n,hn,rfl⟩:=Yr hi
    refine⟨rfl,?_⟩
    obtain⟨dxb,fb,ds,dp,b1,b2,b3,b4,b5⟩:=hb.same s1
    obtain⟨kv,e1,e2⟩:=Zlc (C:=C) b4 n
    refine Z0n (ageIn b.sure n).isSome (isLocked sh n) (λR' hR'=>?_) (λR' hR'=>?_) (hR _ _ (by rw[getElem?_map,getElem?_map,hn];rfl) (Same.refl _))
    ·refine⟨_,rfl,_,rfl,r,CB,dxb,fb,_,rfl,b1,TB.cl,TB.sure,b2,ds,_,rfl,DGet.k (k:=Sum.inl (n:Int)) e1,?_⟩
     rw[e2]
     exact hR'
    ·refine⟨_,rfl,_,rfl,p,C,dx,fs,_,rfl,s1 _ _ h1,TC.cl,TC.locked,hla,la,_,rfl,.inl (SqL.of (s1 _ _ hlk)),rfl,Xb _,?_⟩
     show R' (.bl (inV (.int (n:Int)) (Zl sh.locked))) H'
     rw[Xi]
     exact hR'
   refine⟨D,_,rfl,SqL.of f1,_,rfl,?_⟩
   have ea:(ls.map λx=>(ageIn b.sure x).isSome||isLocked sh x).all id=ls.all (λx=>isLocked sh x||(ageIn b.sure x).isSome):=by
    rw[List.all_map]
    congr 1
    funext x
    exact Bool.or_comm _ _
   rw[ea]
   refine ite2 (λz1=>?_) λz1=>?_
   ·have k':=k H1 s1
    dsimp only at k'
    rw[if_pos z1]at k'
    exact k'
   refine⟨_,rfl,a,rfl,⟨_,SqL.of (s1 _ _ ha)⟩,λD2 hD2=>?_⟩
   refine Ub ((ls.map λx=>(ageIn b.maybe x).isSome||isLocked sh x).map V.bl) (by rw[length_map,length_map,Zi]) hD2 (SqL.of (s1 _ _ ha)) (Zg (by rw[Zi];omega)) (λi x H' R hi s2 hR=>?_) λH2 s2 f2=>?_
   ·obtain⟨n,hn,rfl⟩:=Yr hi
    refine⟨rfl,?_⟩
    obtain⟨dxb,fb,ds,dp,b1,b2,b3,b4,b5⟩:=(hb.same s1).same s2
    obtain⟨kv,e1,e2⟩:=Zlc (C:=C) b5 n
    refine Z0n (ageIn b.maybe n).isSome (isLocked sh n) (λR' hR'=>?_) (λR' hR'=>?_) (hR _ _ (by rw[getElem?_map,getElem?_map,hn];rfl) (Same.refl _))
    ·refine⟨_,rfl,_,rfl,r,CB,dxb,fb,_,rfl,b1,TB.cl,TB.possible,b3,dp,_,rfl,DGet.k (k:=Sum.inl (n:Int)) e1,?_⟩
     rw[e2]
     exact hR'
    ·refine⟨_,rfl,_,rfl,p,C,dx,fs,_,rfl,s2 _ _ (s1 _ _ h1),TC.cl,TC.locked,hla,la,_,rfl,.inl (SqL.of (s2 _ _ (s1 _ _ hlk))),rfl,Xb _,?_⟩
     show R' (.bl (inV (.int (n:Int)) (Zl sh.locked))) H'
     rw[Xi]
     exact hR'
   refine⟨D2,_,rfl,SqL.of f2,_,rfl,?_⟩
   have eb:(!(ls.map λx=>(ageIn b.maybe x).isSome||isLocked sh x).any id)=ls.all (λx=>!isLocked sh x&&(ageIn b.maybe x).isNone):=by
    rw[List.any_map,List.not_any_eq_all_not]
    congr 1
    funext x
    show(!((ageIn b.maybe x).isSome||isLocked sh x))=_
    cases ageIn b.maybe x <;> cases isLocked sh x <;> rfl
   show if(!(ls.map λx=>(ageIn b.maybe x).isSome||isLocked sh x).any id)=true then _ else _
   rw[eb]
   have k':=k H2 (s1.trans s2)
   dsimp only at k'
   rw[if_neg z1]at k'
   refine ite2 (λz2=>?_) λz2=>?_
   ·rw[if_pos z2]at k'
    exact k'
   ·rw[if_neg z2]at k'
    exact k'
end
end Sl
namespace Sl
open PySem PySem.Spec PyProof.Rows L2
noncomputable def Vi (sh:Vawctb.Shape)(ls:List Nat)(l:List Vawctb.Seen):List Bool:=l.flatMap λs=>ls.map (Vawctb.hits sh s.at_.cache)
theorem Nj (sh:Vawctb.Shape)(ls:List Nat):∀l:List Vawctb.Seen,(Vi sh ls l).length=l.length*ls.length
 |[]=>by rw[length_nil,Nat.zero_mul];rfl
 |s::l=>by
  show(ls.map (Vawctb.hits sh s.at_.cache)++Vi sh ls l).length=_
  rw[length_append,length_map,Nj sh ls l,length_cons,Nat.succ_mul,Nat.add_comm]
theorem Zan (sh:Vawctb.Shape)(ls:List Nat)(l:List Vawctb.Seen)(s:Vawctb.Seen):Vi sh ls (l++[s])=Vi sh ls l++ls.map (Vawctb.hits sh s.at_.cache):=by
 unfold Vi
 rw[List.flatMap_append,List.flatMap_cons,List.flatMap_nil,append_nil]
theorem Z3o (sh:Vawctb.Shape)(ls:List Nat)(l:List Vawctb.Seen):(Vi sh ls l).all id=l.all λs=>ls.all (Vawctb.hits sh s.at_.cache):=by
 unfold Vi
 rw[List.all_flatMap]
 congr 1
 funext s
 rw[List.all_map]
 rfl
theorem Zde (sh:Vawctb.Shape)(ls:List Nat)(l:List Vawctb.Seen):(!(Vi sh ls l).any id)=l.all λs=>ls.all λx=>!Vawctb.hits sh s.at_.cache x:=by
 unfold Vi
 rw[List.any_flatMap,List.not_any_eq_all_not]
 congr 1
 funext s
 rw[List.any_map,List.not_any_eq_all_not]
 rfl
noncomputable section
variable {P:Program}{w:World}{K:W.Frag}{mg:Str->Option Value}{base:Heap}{C CB CG CM f:Addr}{fd:FuncData}
noncomputable def spHI (C CM:Addr):Sp:=λvs H Q _=>∃(p a t:Addr) (sh:Vawctb.Shape) (ls:List Nat) (l:List Vawctb.Seen),vs=[.ref p,.ref a,.ref t]/\CacheAt C H p sh/\ShOk sh/\H a=some (.lst (Zl ls))/\ls.length<=3/\MomsAt CM H t l/\l.length<=400/\(∀s∈l,CaOk sh s.at_.cache)/\
 ∀(H':Hp) (u:Addr),Same H H'->H' u=some (.lst ((Vi sh ls l).map V.bl))->Q (.ref u) H'
theorem Zdf:FnScope ["cache","lines","moments","hits","moment","line"] ["cache","lines","moments"] (Zf Z1c):=#[5]
theorem Zdg (F:Fun K "hits_in" "hits_in" Z1c f fd)(TM:TMoment K CM)(kH:#[43]):FnOk P w K mg base CX0 2 f fd ["cache","lines","moments"] (spHI C CM):=by
 exists 0,Zdf
 ·obtain⟨p,a,t,sh,ls,l,rfl,hC,h0,ha,hz,hM,hl,hc,k⟩:=h
  refine⟨_,Zb (#[0,3,Zv Zc])
   (Zb (Yy PassesOwn.never rfl (Yc (pv 2)) (Zdu (i:=4) SC.nd rfl (Or.inr rfl))
    (Zd (Xd (#[4,pv 3,(Za (Ti (te:=Zh1 (Zjt C) [] E0 (Z6k (tVar 0) (Z6k (tFld K (tVar 4) "state") (Z6k (tVar 5) tNil)))) (own:=[("line",5)]) rfl SC.nd (Yc (pv 1)) (Yd rfl) (λ_ _ _ _ _=>#[1,5]) (λ_ _ _ _ _=>Yv)
     (λ_ _ _ _ _=>Zs kH hr (Za (pv 0) (Za (Zh (pv 4) rfl) (Za (pv 5) Zc))))) Zc)]))))
   (Zd (Zj (pv 3)))),?_⟩
  refine⟨Nat.zero_le _,λm hm=>?_⟩
  obtain⟨s1,f1⟩:=newE hm (.lst [])
  generalize upd H m _=H1 at s1 f1 ⊢
  obtain⟨as,a1,a2,a3⟩:=id hM
  refine⟨_,rfl,t,rfl,⟨_,SqL.of (s1 _ _ a1)⟩,Xk (K:=K) (a:=t) (xs:=as.map V.ref) (λi σ H'=>∃v4:Option V,σ=[some (.ref p),some (.ref a),some (.ref t),some (.ref m),v4,none]/\Same H H'/\H' m=some (.lst ((Vi sh ls (l.take i)).map V.bl)))
   ⟨none,rfl,s1,f1⟩ (λi σ H' _ ⟨_,_,s2,_⟩=>SqL.of (s2 _ _ a1)) ?_ ?_⟩
  ·rintro i y σ H2 hi ⟨v4,rfl,s2,f2⟩
   obtain⟨b,hb,rfl⟩:=Yw hi
   obtain⟨z,hzi⟩:∃z,l[i]?=some z:=⟨_,getElem?_eq_getElem (by have:=(gse.mp hb).1;omega)⟩
   have cz:=hc z (mem_of_getElem? hzi)
   have mb:=(a3 i b z hb hzi).same s2
   refine⟨_,rfl,.inl ⟨rfl,_,SqL.of f2⟩,_,rfl,a,rfl,⟨_,SqL.of (s2 _ _ ha)⟩,λD hD=>?_⟩
   refine Ub ((ls.map (Vawctb.hits sh z.at_.cache)).map V.bl) (by rw[length_map,length_map,Zi]) hD (SqL.of (s2 _ _ ha)) (Zg (by rw[Zi];omega)) (λj x H' R hj s3 hR=>?_) λH3 s3 f3=>?_
   ·obtain⟨n,hn,rfl⟩:=Yr hj
    obtain⟨dm,fm,qm,bm,lm,g1,g2,g3⟩:=(mb.same s3).fields
    refine⟨rfl,_,rfl,_,rfl,b,CM,dm,fm,_,rfl,g1,TM.cl,TM.state,g2.state,_,rfl,p,qm,sh,_,n,rfl,hC.same (s2.trans s3),h0,g3,cz.len,hR _ _ (by rw[getElem?_map,getElem?_map,hn];rfl) (Same.refl _)⟩
   ·have hlen:(Vi sh ls (l.take i)).length<=400*3:=by
     rw[Nj,length_take]
     exact Nat.mul_le_mul (by omega) hz
    refine⟨m,D,_,_,rfl,rfl,s3 _ _ f2,f3,Nat.le_of_lt (Zg (by rw[length_map,length_map,length_map];omega)),?_⟩
    obtain⟨s4,f4⟩:=chg (o:=.lst ((Vi sh ls (l.take i)).map V.bl++(ls.map (Vawctb.hits sh z.at_.cache)).map V.bl)) (s2.trans s3) hm
    refine⟨_,rfl,s4,?_⟩
    rw[f4,Zw hzi,Zan,map_append]
  ·rintro σ H2 ⟨v4,rfl,s2,f2⟩
   rw[length_map,a2,take_length]at f2
   exact⟨_,rfl,k H2 m s2 f2⟩
noncomputable def spCM (C CG CM:Addr):Sp:=λvs H Q _=>∃(p q t:Addr) (sh:Vawctb.Shape) (g:Graph) (l:List Vawctb.Seen) (v:Nat),vs=[.ref p,.ref q,.ref t,.int (v:Int)]/\CacheAt C H p sh/\ShOk sh/\GraphAt CG H q g/\GrOk g/\MomsAt CM H t l/\SGood sh g l/\l.length<=400/\v<g.nodes.length/\
 ∀(H':Hp),Same H H'->Q (.int (classOf sh g l v:Nat)) H'
theorem Ql {g:Graph}(gok:GrOk g)(v:Nat):(Vawctb.linesAt g v).length<=3:=by
 unfold Vawctb.linesAt
 rw[getD_eq_getElem?_getD]
 cases e:g.nodes[v]? with
 |none=>exact Nat.zero_le _
 |some l=>exact(gok.lines l (mem_of_getElem? e)).1
theorem Qm:FnScope ["cache","graph","moments","node","lines","hits"] ["cache","graph","moments","node"] (Zf Xw):=#[5]
theorem Sd {sh:Vawctb.Shape}{g:Graph}{l:List Vawctb.Seen}(h:SGood sh g l)(v:Nat):∀s∈momentsAt l v,CaOk sh s.at_.cache:=λs hs=>by
 unfold momentsAt at hs
 obtain⟨j,hj⟩:=mem_iff_getElem?.mp (List.mem_filter.mp hs).1
 exact(h.ok j s hj).2.1
theorem Qn (F:Fun K "class_by_moments" "class_by_moments" Xw f fd)(B:Blt mg)(TG:TGraph K CG)(kA:#[45])(kI:#[60])(L:ClsC mg):FnOk P w K mg base CX0 3 f fd ["cache","graph","moments","node"] (spCM C CG CM):=by
 obtain⟨⟨u0,m0,r0⟩,⟨u1,m1,r1⟩,⟨u2,m2,r2⟩,⟨u3,m3,r3⟩,⟨u4,m4,r4⟩⟩:=L
 exists 0,Qm
 ·obtain⟨p,q,t,sh,g,l,v,rfl,hC,h0,hG,gok,hM,sg,hz,hv,k⟩:=h
  refine⟨_,Zb (#[0,4,Yp Zy (Zh (pv 1) rfl) (pv 3) (λ_ _=>rfl)])
   (Zb (#[0,5,Zs kI hr (Za (pv 0) (Za (pv 4) (Za (Zs kA #[2] (Za (pv 2) (Za (pv 3) Zc))) Zc)))])
   (Zb (Yh (Zo Ro (#[6,Za (pv 4) Zc]) Zn rfl) (Zd (Zj (Zt rfl m0 r0))) Zr)
   (Zb (Yh (Zo Ro (#[6,Za (pv 5) Zc]) Zn rfl) (Zd (Zj (Zt rfl m4 r4))) Zr)
   (Zb (Yh (Xf (Yi (Z2x rfl) rfl B.n_all Z3b (Za (pv 5) Zc))) (Zd (Zj (Zt rfl m1 r1))) Zr)
   (Zd (Zj (Wg (Xf (Yi (Zid rfl) rfl B.n_any Zil (Za (pv 5) Zc))) (Zt rfl m3 r3) (Zt rfl m2 r2)))))))),?_⟩
  obtain⟨dx,fs,ll,xs,la,e1,e2,e3,e4,e5,e6⟩:=hG.lines_at hv
  have hll:=Ql gok v
  have hml:=Xv l v
  refine⟨_,rfl,q,CG,dx,fs,_,rfl,e1,TG.cl,TG.lines,e2,_,rfl,ll,xs,_,_,rfl,rfl,SqL.of e3,Ya e5,?_⟩
  refine⟨_,rfl,_,rfl,_,rfl,_,rfl,t,l,v,rfl,hM,hz,λH1 u s1 m1'=>?_⟩
  refine⟨p,la,u,sh,_,_,rfl,hC.same s1,h0,s1 _ _ e6,hll,m1',by omega,Sd sg v,λH2 h s2 f2=>?_⟩
  have s02:=s1.trans s2
  have hE:=Nj sh (Vawctb.linesAt g v) (momentsAt l v)
  have hAll:=Z3o sh (Vawctb.linesAt g v) (momentsAt l v)
  have hAny:=Zde sh (Vawctb.linesAt g v) (momentsAt l v)
  have k2:=k H2 s02
  unfold classOf at k2
  refine⟨_,rfl,la,_,rfl,.inl (SqL.of (s02 _ _ e6)),rfl,_,rfl,?_⟩
  show if decide (V.int ((Zl (Vawctb.linesAt g v)).length:Int)=V.int ((0:Nat):Int))=true then _ else _
  rw[Xm,Zi]
  refine ite2 (λz=>?_) λz=>?_
  ·rw[if_pos (by rw[isEmpty_iff];exact List.length_eq_zero_iff.mp (of_decide_eq_true z))]at k2
   exact k2
  rw[if_neg (by rw[isEmpty_iff];intro q;rw[q]at z;exact z rfl)]at k2
  dsimp only at k2
  have z':0<(Vawctb.linesAt g v).length:=by
   have:¬(Vawctb.linesAt g v).length=0:=λq=>z (decide_eq_true q)
   omega
  refine⟨_,rfl,h,_,rfl,.inl (SqL.of f2),rfl,_,rfl,?_⟩
  show if decide (V.int (((Vi sh (Vawctb.linesAt g v) (momentsAt l v)).map V.bl).length:Int)=V.int ((0:Nat):Int))=true then _ else _
  rw[Xm,length_map,hE]
  refine ite2 (λy=>?_) λy=>?_
  ·have y':=of_decide_eq_true y
   have hq:(momentsAt l v).length=0:=by
    rcases Nat.mul_eq_zero.mp y' with q | q
    ·exact q
    ·omega
   rw[if_pos (by rw[isEmpty_iff];exact List.length_eq_zero_iff.mp hq)]at k2
   exact k2
  rw[if_neg (by rw[isEmpty_iff];intro q;rw[q,length_nil,Nat.zero_mul]at y;exact y rfl)]at k2
  refine⟨_,rfl,h,_,rfl,SqL.of f2,_,rfl,?_⟩
  rw[hAll]
  refine ite2 (λx=>?_) λx=>?_
  ·rw[if_pos x]at k2
   exact k2
  rw[if_neg x]at k2
  refine⟨_,rfl,h,_,rfl,SqL.of f2,_,rfl,?_⟩
  cases w':(Vi sh (Vawctb.linesAt g v) (momentsAt l v)).any id with
  |true =>
   rw[w']at hAny
   rw[if_neg (by rw[<-hAny];exact Bool.false_ne_true)]at k2
   exact iteT k2
  |false =>
   rw[w']at hAny
   rw[if_pos (by rw[<-hAny];rfl)]at k2
   exact iteF k2
noncomputable def spIN (C CG CM:Addr):Sp:=λvs H Q _=>∃(p q t:Addr) (sh:Vawctb.Shape) (g:Graph) (l:List Vawctb.Seen) (v:Nat),vs=[.ref p,.ref q,.ref t,.int (v:Int)]/\CacheAt C H p sh/\ShOk sh/\GraphAt CG H q g/\GrOk g/\MomsAt CM H t l/\SGood sh g l/\l.length<=400/\v<g.nodes.length/\
 ∀(H':Hp),Same H H'->Q (.bl (decide (classOf sh g l v=3))) H'
theorem Z5q:FnScope ["cache","graph","moments","node"] ["cache","graph","moments","node"] (Zf Sc):=#[5]
theorem Z5r (F:Fun K "is_neither" "is_neither" Sc f fd)(kC:#[61])(L:ClsC mg):FnOk P w K mg base CX0 4 f fd ["cache","graph","moments","node"] (spIN C CG CM):=by
 obtain⟨_,_,_,⟨u3,m3,r3⟩,_⟩:=L
 exists 0,Z5q
 ·obtain⟨p,q,t,sh,g,l,v,rfl,hC,h0,hG,gok,hM,sg,hz,hv,k⟩:=h
  refine⟨_,Zd (Zj (Xx Ro (Zs kC hr (Za (pv 0) (Za (pv 1) (Za (pv 2) (Za (pv 3) Zc))))) (Zt rfl m3 r3) rfl)),?_⟩
  refine⟨_,rfl,_,rfl,_,rfl,_,rfl,p,q,t,sh,g,l,v,rfl,hC,h0,hG,gok,hM,sg,hz,hv,λH1 s1=>⟨rfl,?_⟩⟩
  show Q (.bl (decide (V.int (classOf sh g l v:Nat)=V.int ((3:Nat):Int)))) H1
  rw[Xm]
  exact k H1 s1
noncomputable def spAg (C CG CM:Addr):Sp:=λvs H Q _=>∃(p q t:Addr) (sh:Vawctb.Shape) (g:Graph) (l:List Vawctb.Seen) (v:Nat),vs=[.ref p,.ref q,.ref t,.int (v:Int)]/\CacheAt C H p sh/\ShOk sh/\GraphAt CG H q g/\GrOk g/\MomsAt CM H t l/\SGood sh g l/\l.length<=400/\v<g.nodes.length/\
 ∀(H':Hp),Same H H'->Q (.bl (!firstAlone sh g l v)) H'
theorem Z1d:FnScope ["cache","graph","moments","node","again","moment"] ["cache","graph","moments","node"] (Zf Vv):=#[5]
theorem Z8m (q:Vawctb.Seen->Bool):∀l:List Vawctb.Seen,(l.filter λs=>s.at_.stood).all q=l.all λs=>!s.at_.stood||q s
 |[]=>rfl
 |s::l=>by
  rw[filter_cons,List.all_cons,<-Z8m q l]
  cases s.at_.stood <;> rfl
theorem Z1e (F:Fun K "misses_again" "misses_again" Vv f fd)(B:Blt mg)(TM:TMoment K CM)(TG:TGraph K CG)(kA:#[45])(kI:#[60]):FnOk P w K mg base CX0 3 f fd ["cache","graph","moments","node"] (spAg C CG CM):=by
 exists 0,Z1d
 ·obtain⟨p,q,t,sh,g,l,v,rfl,hC,h0,hG,gok,hM,sg,hz,hv,k⟩:=h
  refine⟨_,Zb (Ud (tt:=tB (tFld K (tVar 5) "stood")) (i:=4) (own:=[("moment",5)]) rfl SC.nd rfl rfl rfl (Yc (Zs kA #[2] (Za (pv 2) (Za (pv 3) Zc)))) (Yd rfl)
    (λ_ _ _ _ _=>#[1,5]) (λ_ _ _ _ _=>Jy (Xf (Zh (pv 5) rfl))) (λ_ _ _ _ _=>pv 5))
   (Zd (Zj (Zi9 (Yi (Z2x rfl) rfl B.n_all Z3b (Za (Zs kI hr (Za (pv 0) (Za (Yp Zy (Zh (pv 1) rfl) (pv 3) (λ_ _=>rfl)) (Za (pv 4) Zc)))) Zc))))),?_⟩
  obtain⟨dx,fs,ll,xs,la,e1,e2,e3,e4,e5,e6⟩:=hG.lines_at hv
  have hll:=Ql gok v
  have hml:=Xv l v
  have hca:=Sd sg v
  have ek:firstAlone sh g l v=((momentsAt l v).filter λs=>s.at_.stood).all λs=>(Vawctb.linesAt g v).all (Vawctb.hits sh s.at_.cache):=(Z8m _ _).symm
  rw[ek]at k
  refine⟨_,rfl,_,rfl,t,l,v,rfl,hM,hz,λH1 u s1 m1=>?_⟩
  generalize momentsAt l v=lv at m1 hml hca k
  obtain⟨as,a1,a2,a3⟩:=id m1
  refine⟨u,rfl,⟨_,SqL.of a1⟩,λD hD=>?_⟩
  refine Rt (K:=K) (a:=u) (xs:=as.map V.ref) (λi H'=>Same H1 H'/\MomsAt CM H' D ((lv.take i).filter λs=>s.at_.stood)) ⟨Zq hD,[],Ze,rfl,λi a z e=>by simp at e⟩ (λi H' _ ⟨s2,_⟩=>SqL.of (s2 _ _ a1)) ?_ ?_
  ·rintro i y H' hi ⟨s2,m2⟩
   obtain⟨a,ha,rfl⟩:=Yw hi
   obtain⟨z,hzi⟩:∃z,lv[i]?=some z:=⟨_,getElem?_eq_getElem (by have:=(gse.mp ha).1;omega)⟩
   have ma:=(a3 i a z ha hzi).same s2
   obtain⟨dm,fm,qm,b,ln,g1,g2,g3⟩:=ma.fields
   refine⟨rfl,_,rfl,a,CM,dm,fm,_,rfl,g1,TM.cl,TM.stood,g2.stood,_,rfl,?_⟩
   rw[Zw hzi,List.filter_append,filter_cons,List.filter_nil]
   refine ite2 (λe=>?_) λe=>?_
   ·rw[if_pos e]
    obtain⟨ys,y1,y2,y3⟩:=m2.snoc ma
    have hfl:=List.length_filter_le (λs:Vawctb.Seen=>s.at_.stood) (lv.take i)
    rw[length_take]at hfl
    refine⟨_,rfl,ys,y1,Zg (by omega),λb o eb=>?_,y3⟩
    rw[Zk (Zm eb hD)]
    exact s2 _ _ eb
   ·rw[if_neg e,append_nil]
    exact⟨s2,m2⟩
  ·rintro H2 ⟨s2,m2⟩
   rw[length_map,a2,take_length]at m2
   have s02:=s1.trans s2
   have hfl:=List.length_filter_le (λs:Vawctb.Seen=>s.at_.stood) lv
   refine⟨_,rfl,_,rfl,q,CG,dx,fs,_,rfl,s02 _ _ e1,TG.cl,TG.lines,e2,_,rfl,ll,xs,_,_,rfl,rfl,SqL.of (s02 _ _ e3),Ya e5,_,rfl,?_⟩
   refine⟨p,la,D,sh,_,_,rfl,hC.same s02,h0,s02 _ _ e6,hll,m2,by omega,λs hs=>hca s (List.mem_filter.mp hs).1,λH3 h s3 f3=>?_⟩
   refine⟨h,_,rfl,SqL.of f3,_,rfl,?_⟩
   rw[Z3o]
   exact k H3 (s02.trans s3)
end
abbrev Qo:Stmt:=Tj (top 61) 0
abbrev Qp:Stmt:=top 62
abbrev Z1f:Stmt:=top 63
abbrev Se:Stmt:=top 64
abbrev Vw:Stmt:=top 65
abbrev Vj:Stmt:=top 66
abbrev Uu:Stmt:=top 67
noncomputable def KeepBut (D:Addr)(H H':Hp):Prop:=∀b o,H b=some o->b≠D->H' b=some o
theorem KeepBut.of {D:Addr}{H H':Hp}(s:Same H H'):KeepBut D H H':=λb o e _=>s b o e
theorem KeepBut.trans {D:Addr}{H H1 H2:Hp}(a:KeepBut D H H1)(b:KeepBut D H1 H2):KeepBut D H H2:=λc o e n=>b c o (a c o e n) n
theorem Zgm {K:W.Frag}{a:Addr}{xs:List V}{g:TG}{te:TE}{vs:List Nat}{σ:L2.St}{H1:Hp}{D:Addr}{Qd:Hp->Prop}(Rel:Nat->V->Hp->Prop)(hm:∀i y H H',Rel i y H->KeepBut D H H'->(∃zs,H D=some (.lst zs))->Rel i y H')(hD:H1 D=none)(ha:SqL K H1 a xs)(hz:xs.length<sizeLine)
  (hs:∀(i:Nat) (x:V) (H:Hp) (R:L2.VK),xs[i]?=some x->Same H1 H->(∃zs,H D=some (.lst zs))->(∀(y:V) (H4:Hp),Rel i y H4->Same H H4->R y H4)->g x (wipe σ vs) H λσ2 H2=>wipe σ2 vs=wipe σ vs/\te σ2 H2 R)
  (hd:∀H ys,Same H1 H->H D=some (.lst ys)->ys.length=xs.length->(∀(i:Nat) (y:V),ys[i]?=some y->Rel i y H)->Qd H) :
  ∃W:Nat->Nat->Hp->Prop,(∃m,W 0 m (upd H1 D (.lst [])))/\∀i m H,W i m H->
   ((Itl K a).stop i H/\Qd H)\/((Itl K a).go i H/\∃Nx:Hp->Prop,(∀H',Nx H'->∃m',m'<m/\W (i+1) m' H')/\∀x H',(Itl K a).yld i H x H'->g x (wipe σ vs) H' λσ2 H2=>wipe σ2 vs=wipe σ vs/\tYes σ2 H2 λb H3 =>
    if b=true then te σ2 H3 λy H4=>∃acc,H4 D=some (.lst acc)/\acc.length<sizeLine/\Nx (upd H4 D (.lst (acc++[y]))) else Nx H3):=by
 refine Rt (K:=K) (a:=a) (xs:=xs) (tt:=tYes) (λi H'=>Same H1 H'/\i<=xs.length/\∃ys,H' D=some (.lst ys)/\ys.length=i/\∀(j:Nat) (y:V),ys[j]?=some y->Rel j y H') ⟨Zq hD,Nat.zero_le _,[],Ze,rfl,λj y e=>by simp at e⟩ (λi H' _ ⟨s1,_⟩=>s1.seq ha) ?_ ?_
 ·rintro i x H' hi ⟨s1,hle,ys,hD',hl,hr⟩
  have hi':i<xs.length:=(gse.mp hi).1
  refine hs i x H' _ hi s1 ⟨ys,hD'⟩ λy H4 hy4 s4=>⟨ys,s4 _ _ hD',by omega,λb o eb=>?_,by omega,ys++[y],Ze,by rw[length_append,length_singleton,hl],λj z ez=>?_⟩
  ·rw[Zk (Zm eb hD)]
   exact s4 _ _ (s1 _ _ eb)
  ·have kp:KeepBut D H4 (upd H4 D (.lst (ys++[y]))):=λb o e n=>by rw[Zk n];exact e
   by_cases q:j<ys.length
   ·rw[getElem?_append_left q]at ez
    exact hm _ _ _ _ (hr j z ez) ((KeepBut.of s4).trans kp) ⟨ys,hD'⟩
   ·rw[getElem?_append_right (by omega)]at ez
    have e0:j-ys.length=0:=by
     have:=(gse.mp ez).1
     simp only[length_singleton]at this
     omega
    rw[e0]at ez
    have ej:j=i:=by omega
    subst ej
    cases ez
    exact hm _ _ _ _ hy4 kp ⟨ys,s4 _ _ hD'⟩
 ·rintro H' ⟨s1,hle,ys,hD',hl,hr⟩
  exact hd H' ys s1 hD' hl hr
structure TStep (K:W.Frag)(C:Addr):Prop where
 cl:Cls K C
 miss:NoAttr K C "miss"
 places:NoAttr K C "places"
noncomputable def Z3p (us:List V):List (Str×V):=putF "places" (us.getD 1 .non) (putF "miss" (us.getD 0 .non) [])
noncomputable def Ziu (CS:Addr)(Fr:Addr->Prop)(H:Hp)(a:Addr)(ms:Nat)(ps:List Nat):Prop:=∃dx fs la,H a=some (.ins CS dx fs)/\fs.lookup ("miss":Str)=some (.int (ms:Int))/\fs.lookup ("places":Str)=some (.ref la)/\H la=some (.lst (Zl ps))/\Fr la
noncomputable def PlOk (l:List Vawctb.Seen)(zs:List Vawctb.Seen)(ps:List Nat):Prop:=ps.length=zs.length/\∀(j p:Nat) (z:Vawctb.Seen),ps[j]?=some p->zs[j]?=some z->∃s',l[p]?=some s'/\s'.at_=z.at_
noncomputable def StepRel (CS:Addr)(sh:Vawctb.Shape)(g:Graph)(l:List Vawctb.Seen)(s:Vawctb.Seen)(Fr:Addr->Prop)(H:Hp)(a:Addr)(x:Option Nat):Prop:=∃ps,Ziu CS Fr H a (missOf sh s.at_.cache x) ps/\PlOk l (Zx sh g none s x) ps
noncomputable def StepsAt (CS:Addr)(sh:Vawctb.Shape)(g:Graph)(l:List Vawctb.Seen)(s:Vawctb.Seen)(Fr:Addr->Prop)(H:Hp)(t:Addr):Prop:=Fr t/\∃as:List Addr,H t=some (.lst (as.map V.ref))/\as.length=(touches g s.at_.node).length/\∀(j:Nat) (a:Addr) (x:Option Nat),as[j]?=some a->(touches g s.at_.node)[j]?=some x->StepRel CS sh g l s Fr H a x
theorem StepRel.on {CS:Addr}{sh:Vawctb.Shape}{g:Graph}{l:List Vawctb.Seen}{s:Vawctb.Seen}{Fr Fr':Addr->Prop}{H H':Hp}{a:Addr}{x:Option Nat}(h:StepRel CS sh g l s Fr H a x)(hi:∀dx fs,H a=some (.ins CS dx fs)->H' a=some (.ins CS dx fs))(hl:∀b xs,Fr b->H b=some (.lst xs)->H' b=some (.lst xs)/\Fr' b):StepRel CS sh g l s Fr' H' a x:=by
 obtain⟨ps,⟨dx,fs,la,h1,h2,h3,h4,h5⟩,h6⟩:=h
 obtain⟨q1,q2⟩:=hl la _ h5 h4
 exact⟨ps,⟨dx,fs,la,hi _ _ h1,h2,h3,q1,q2⟩,h6⟩
theorem StepsAt.on {CS:Addr}{sh:Vawctb.Shape}{g:Graph}{l:List Vawctb.Seen}{s:Vawctb.Seen}{Fr Fr':Addr->Prop}{H H':Hp}{t:Addr}(h:StepsAt CS sh g l s Fr H t)(hi:∀a dx fs,H a=some (.ins CS dx fs)->H' a=some (.ins CS dx fs))(hl:∀b xs,Fr b->H b=some (.lst xs)->H' b=some (.lst xs)/\Fr' b):StepsAt CS sh g l s Fr' H' t:=by
 obtain⟨h0,as,h1,h2,h3⟩:=h
 obtain⟨q1,q2⟩:=hl t _ h0 h1
 exact⟨q2,as,q1,h2,λj a x e1 e2=>(h3 j a x e1 e2).on (hi a) hl⟩
theorem StepsAt.same {CS:Addr}{sh:Vawctb.Shape}{g:Graph}{l:List Vawctb.Seen}{s:Vawctb.Seen}{Fr:Addr->Prop}{H H':Hp}{t:Addr}(h:StepsAt CS sh g l s Fr H t)(z:Same H H'):StepsAt CS sh g l s Fr H' t:=h.on (λa dx fs e=>z _ _ e) λb xs f e=>⟨z _ _ e,f⟩
noncomputable section
variable {P:Program}{w:World}{K:W.Frag}{mg:Str->Option Value}{base:Heap}{C CB CG CM CS f:Addr}{fd:FuncData}
theorem Z8n:FnScope ["self","miss","places"] ["self","miss","places"] (Zf Qo):=#[5]
theorem Z8o (F:Fun K "__init__" "Step.__init__" Qo f fd)(T:TStep K C):FnOk P w K mg base CX0 1 f fd ["self","miss","places"] (Vo C 2 Z3p):=by
 exists 0,Z8n
 ·obtain⟨p,dx,us,rfl,hl,hp,k⟩:=h
  match us,hl with
  |[a,b],_ =>
   refine⟨_,Zb (Yq (pv 0) (pv 1) rfl) (Zd (Yq (pv 0) (pv 2) rfl)),?_⟩
   refine⟨_,rfl,_,rfl,p,C,dx,[],rfl,hp,T.cl,T.miss,(by show 0<1000;decide),?_⟩
   refine⟨_,rfl,_,rfl,p,C,dx,_,rfl,Ze,T.cl,T.places,(by show 1<1000;decide),?_⟩
   exact k _ Ze λb o e hb=>by rw[Zk hb,Zk hb];exact e
noncomputable def Vq (l:List Vawctb.Seen):List (Moment×V):=l.zipIdx.map λz=>(z.1.at_,V.int (z.2:Int))
theorem Uv (l:List Vawctb.Seen)(s:Vawctb.Seen):Vq (l++[s])=Vq l++[(s.at_,V.int (l.length:Int))]:=by
 unfold Vq
 rw[List.zipIdx_append,map_append]
 simp
theorem Zao (l:List Vawctb.Seen):(Vq l).map (·.1)=l.map (·.at_):=by
 refine Ur (p:=λl=>(Vq l).map (·.1)=l.map (·.at_)) rfl (λl s ih=>?_) l
 rw[Uv,map_append,map_append,ih]
 rfl
theorem Z1g {l:List Vawctb.Seen}{m:Moment}(h:¬m∈l.map (·.at_)):valV (Vq l) m=none:=by
 cases q:valV (Vq l) m with
 |none=>rfl
 |some v =>
  have:=Zjj q
  rw[Zao]at this
  exact absurd this h
theorem Zdh {m:Moment}:∀(l:List Vawctb.Seen),m∈l.map (·.at_)->∃(p:Nat) (s':Vawctb.Seen),l[p]?=some s'/\s'.at_=m/\valV (Vq l) m=some (.int (p:Int)):=λl=>by
 refine Ur (p:=λl=>m∈l.map (·.at_)->∃(p:Nat) (s':Vawctb.Seen),l[p]?=some s'/\s'.at_=m/\valV (Vq l) m=some (.int (p:Int))) (λh=>(nomatch h)) (λl s ih h=>?_) l
 by_cases q:m∈l.map (·.at_)
 ·obtain⟨p,s',h1,h2,h3⟩:=ih q
  refine⟨p,s',?_,h2,?_⟩
  ·rw[getElem?_append_left (gse.mp h1).1]
   exact h1
  ·rw[Uv]
   unfold valV at h3 ⊢
   rw[List.find?_append]
   obtain⟨kv,e1,e2⟩:=Option.map_eq_some_iff.mp h3
   rw[e1]
   exact congrArg some e2
 ·have hs:s.at_=m:=by
   rw[map_append,mem_append]at h
   rcases h with h | h
   ·exact absurd h q
   ·have:m=s.at_:=by simpa using h
    exact this.symm
  refine⟨l.length,s,?_,hs,?_⟩
  ·rw[getElem?_append_right (Nat.le_refl _),Nat.sub_self]
   rfl
  ·rw[Uv,hs,Z6v _ _ _ _ (Z1g q),if_pos rfl]
noncomputable def spPl (P:Program)(w:World)(CM:Addr):Sp:=λvs H Q _=>∃(t:Addr) (l:List Vawctb.Seen),vs=[.ref t]/\MomsAt CM H t l/\(l.map (·.at_)).Nodup/\l.length<=400/\∀(H':Hp) (d:Addr),Same H H'->NDAt P w H' d (Vq l)->Q (.ref d) H'
theorem Z8p:FnScope ["moments","places","place","moment"] ["moments"] (Zf Qp):=#[5]
theorem Z8q (F:Fun K "places_of" "places_of" Qp f fd)(B:Blt mg)(kK:#[48]):FnOk P w K mg base CX0 2 f fd ["moments"] (spPl P w CM):=by
 exists 0,Z8p
 ·obtain⟨t,l,rfl,hM,hnd,hz,k⟩:=h
  have hu:=hr.units
  refine⟨_,Zb (#[0,1,Zhr])
   (Zb (Yy PassesOwn.never rfl (Zeq rfl B.n_enumerate (Za (pv 0) Zc)) (Te rfl (Yf (#[1,2]) (Yf (#[1,3]) Ww)))
    (Zd (Z2u (pv 2) (Z2t (pv 1) (Zs kK hr (Za (pv 3) Zc)) (Zir hu)))))
   (Zd (Zj (pv 1)))),?_⟩
  intro d o hd n0
  have s1:Same H (upd H d o):=Zq hd
  generalize upd H d o=H1 at s1 n0 ⊢
  obtain⟨as,a1,a2,a3⟩:=id hM
  refine⟨_,rfl,t,_,rfl,SqL.of (s1 _ _ a1),Zbh (K:=K) (a:=t) (xs:=as.map V.ref) (λi σ H'=>∃(v2 v3:Option V),σ=[some (.ref t),some (.ref d),v2,v3]/\Same H H'/\NDAt P w H' d (Vq (l.take i)))
   ⟨none,none,rfl,s1,n0⟩ (λi σ H' _ ⟨_,_,_,s2,_⟩=>SqL.of (s2 _ _ a1)) ?_ ?_⟩
  ·rintro i y T σ H2 hi ⟨v2,v3,rfl,s2,n2⟩ hT
   obtain⟨a,ha,rfl⟩:=Yw hi
   obtain⟨s3,f3⟩:=newE hT (.tup [.int (i:Nat),.ref a])
   generalize upd H2 T _=H3 at s3 f3 ⊢
   obtain⟨z,hzi⟩:∃z,l[i]?=some z:=⟨_,getElem?_eq_getElem (by have:=(gse.mp ha).1;omega)⟩
   have hil:=(gse.mp hzi).1
   have ma:=((a3 i a z ha hzi).same s2).same s3
   refine⟨T,_,rfl,SqT.of f3,rfl,_,_,rfl,_,_,rfl,rfl,_,rfl,_,rfl,_,rfl,a,_,_,rfl,ma,λH4 kb s4 hk=>?_⟩
   have s24:=s3.trans s4
   refine⟨d,kb,_,_,rfl,rfl,hk,n2.same s24,?_,λo' n'=>?_⟩
   ·unfold Vq
    rw[length_map,List.length_zipIdx,length_take]
    omega
   ·refine⟨_,_,rfl,(chg (s2.trans s24) hd).1,?_⟩
    have hnew:¬z.at_∈(l.take i).map (·.at_):=λq=>by
     have hnd':=hnd
     rw[<-List.take_append_drop i l,map_append,List.nodup_append]at hnd'
     refine hnd'.2.2 z.at_ q z.at_ (mem_map.mpr ⟨z,?_,rfl⟩) rfl
     have:(l.drop i)[0]?=some z:=by rw[List.getElem?_drop];exact hzi
     exact mem_of_getElem? this
    rw[Zb6 _ (Z1g hnew)]at n'
    rw[Zw hzi,Uv,length_take,Nat.min_eq_left (Nat.le_of_lt hil)]
    exact n'
  ·rintro σ H2 ⟨v2,v3,rfl,s2,n2⟩
   rw[length_map,a2,take_length]at n2
   exact⟨_,rfl,k H2 d s2 n2⟩
end
theorem Zk4 {te:TE}{σ:L2.St}{H:Hp}{Q:L2.VK}(Post:V->Hp->Prop)(h:∀Q':L2.VK,(∀v H1,Post v H1->Q' v H1)->te σ H Q')(hk:∀v H1,Post v H1->Q v H1):te σ H Q:=h Q hk
theorem Zk5 {Rel:Nat->Nat->Prop}:∀(ys:List V),(∀(i:Nat) (y:V),ys[i]?=some y->∃p:Nat,y=.int (p:Int)/\Rel i p)->∃ps:List Nat,ys=Zl ps/\∀(i p:Nat),ps[i]?=some p->Rel i p:=by
 intro ys
 refine Ur (p:=λys=>(∀(i:Nat) (y:V),ys[i]?=some y->∃p:Nat,y=.int (p:Int)/\Rel i p)->∃ps:List Nat,ys=Zl ps/\∀(i p:Nat),ps[i]?=some p->Rel i p) (λ_=>⟨[],rfl,λi p e=>by simp at e⟩) (λys y ih h=>?_) ys
 obtain⟨ps,e1,e2⟩:=ih λi z ez=>h i z (by rw[getElem?_append_left (gse.mp ez).1];exact ez)
 obtain⟨p,rfl,hp⟩:=h ys.length y (by rw[getElem?_append_right (Nat.le_refl _),Nat.sub_self];rfl)
 refine⟨ps++[p],by rw[Zu,e1];rfl,λi q eq=>?_⟩
 have hl:ys.length=ps.length:=by rw[e1,Zi]
 by_cases z:i<ps.length
 ·rw[getElem?_append_left z]at eq
  exact e2 i q eq
 ·rw[getElem?_append_right (by omega)]at eq
  have e0:i-ps.length=0:=by
   have:=(gse.mp eq).1
   simp only[length_singleton]at this
   omega
  rw[e0]at eq
  cases eq
  have:i=ys.length:=by omega
  rw[this]
  exact hp
noncomputable section
variable {P:Program}{w:World}{K:W.Frag}{mg:Str->Option Value}{base:Heap}{C CB CG CM CS f:Addr}{fd:FuncData}
noncomputable def spSB (P:Program)(w:World)(C CG CM CS:Addr):Sp:=λvs H Q _=>∃(p q mo d:Addr) (sh:Vawctb.Shape) (g:Graph) (l:List Vawctb.Seen) (s:Vawctb.Seen) (x:Option Nat),vs=[.ref p,.ref q,.ref mo,optV x,.ref d]/\CacheAt C H p sh/\ShOk sh/\GraphAt CG H q g/\GrOk g/\MomAt CM H mo s.at_ s.way/\NDAt P w H d (Vq l)/\AllOk sh g none l/\s∈l/\x∈touches g s.at_.node/\
 ∀(H':Hp) (a:Addr),Same H H'->StepRel CS sh g l s (λla=>H la=none) H' a x->Q (.ref a) H'
theorem Zdi:FnScope ["cache","graph","moment","line","places","behind","miss","other"] ["cache","graph","moment","line","places"] (Zf Z1f):=#[5]
theorem Zap {sh:Vawctb.Shape}{g:Graph}{s z:Vawctb.Seen}{x:Option Nat}(hx:x∈touches g s.at_.node)(h:z∈Zx sh g none s x):z∈behindMoment sh g none s:=by
 obtain⟨v,hv,rfl⟩:=mem_map.mp h
 exact List.mem_flatMap.mpr ⟨x,hx,mem_map.mpr ⟨v,(Py _).mp hv,rfl⟩⟩
theorem AllOk.ca {sh:Vawctb.Shape}{g:Graph}{wt:Option Nat}{l:List Vawctb.Seen}(h:AllOk sh g wt l){s:Vawctb.Seen}(hs:s∈l):s.at_.node<g.nodes.length/\CaOk sh s.at_.cache:=by
 obtain⟨j,hj⟩:=mem_iff_getElem?.mp hs
 exact⟨(h.good.ok j s hj).1,(h.good.ok j s hj).2.1⟩
theorem Zdj (F:Fun K "step_by" "step_by" Z1f f fd)(TM:TMoment K CM)(kB:#[59])(kH:#[43])(kK:#[48])(kS:#[83]) :
  FnOk P w K mg base CX0 5 f fd ["cache","graph","moment","line","places"] (spSB P w C CG CM CS):=by
 exists 0,Zdi
 ·obtain⟨p,q,mo,d,sh,g,l,sn,x,rfl,hC,h0,hG,gok,hM,hN,hA,hsn,hx,k⟩:=h
  have hu:=hr.units
  have hr1:Room 1 _:=hr.mono (by decide)
  obtain⟨hnode,hca⟩:=hA.ca hsn
  refine⟨_,Zb (#[0,5,Zs kB hr (Za (pv 0) (Za (pv 1) (Za (pv 2) (Za (pv 3) (Za Yb Zc)))))])
   (Zb (#[0,6,Wg (PW.pt (Jm (Zo Xp (pv 3) Yb rfl) (Pa (Xf (Zs kH hr1 (Za (pv 0) (Za (Zh (pv 2) rfl) (Za (pv 3) Zc)))))))) Zn Zn])
   (Zd (Zj (Wz kS #[2] (Za (pv 6) (Za (Ti (te:=tOp (rIxN P w) (tVar 4) (Zh1 (Zk1 CM) [] E0 (Z6k (tVar 7) tNil))) (own:=[("other",7)]) rfl SC.nd (Yc (pv 5)) (Yd rfl) (λ_ _ _ _ _=>#[1,7]) (λ_ _ _ _ _=>Yv)
    (λ_ _ _ _ _=>Yp (Zm9 hu) (pv 4) (Zs kK hr1 (Za (pv 7) Zc)) (λ_ _=>rfl))) Zc)))))),?_⟩
  refine⟨_,rfl,_,rfl,_,rfl,_,rfl,p,q,mo,sh,g,sn,x,none,rfl,hC,h0,hG,gok,hM,hca,λH1 tb ntb s1 mb=>?_⟩
  obtain⟨dm,fm,qm,bm,lm,g1,g2,g3⟩:=(hM.same s1).fields
  dsimp only[Z3t,tSeq,tAsg]
  refine Zk4 (λv H2=>v=.int (missOf sh sn.at_.cache x:Nat)/\H2=H1) (λQ' hQ=>?_) ?_
  ·refine⟨_,rfl,rfl,_,rfl,?_⟩
   show if decide (optV x=V.non)=true then _ else _
   rw[Oa]
   cases x with
   |none=>exact iteT (iteT (hQ _ _ ⟨rfl,rfl⟩))
   |some n =>
    refine iteF ⟨_,rfl,_,rfl,mo,CM,dm,fm,_,rfl,g1,TM.cl,TM.state,g2.state,_,rfl,p,qm,sh,_,n,rfl,hC.same s1,h0,g3,hca.len,_,rfl,?_⟩
    have em:missOf sh sn.at_.cache (some n)=if Vawctb.hits sh sn.at_.cache n then 0 else 1:=rfl
    refine ite2 (λe=>?_) λe=>?_
    ·rw[if_pos e]at em
     exact hQ _ _ ⟨by rw[em];rfl,rfl⟩
    ·rw[if_neg e]at em
     exact hQ _ _ ⟨by rw[em];rfl,rfl⟩
  rintro v H2 ⟨rfl,rfl⟩
  obtain⟨bs,c1,c2,c3⟩:=id mb
  have hbl:(Zx sh g none sn x).length<=24:=by
   unfold Zx
   rw[length_map]
   exact Sx gok sn.at_.node
  refine⟨_,rfl,_,rfl,tb,rfl,⟨_,SqL.of c1⟩,λD hD=>?_⟩
  refine Zit (Rel:=λi y _=>∃pl:Nat,y=.int (pl:Int)/\∀z,(Zx sh g none sn x)[i]?=some z->∃s',l[pl]?=some s'/\s'.at_=z.at_) (λi y _ _ h _=>h) hD (SqL.of c1) (Zg (by rw[length_map];omega)) (λi y H3 R hi s3 hR=>?_) λH3 ys s3 f3 hl hy=>?_
  ·obtain⟨b,hb,rfl⟩:=Yw hi
   obtain⟨z,hzi⟩:∃z,(Zx sh g none sn x)[i]?=some z:=⟨_,getElem?_eq_getElem (by have:=(gse.mp hb).1;omega)⟩
   have hin:=hA.closed sn hsn z (Zap hx (mem_of_getElem? hzi))
   obtain⟨pl,s',p1,p2,p3⟩:=Zdh l hin
   refine⟨rfl,_,rfl,_,rfl,b,_,_,rfl,(c3 i b z hb hzi).same s3,λH4 kb s4 hk=>?_⟩
   refine⟨d,kb,_,_,_,rfl,rfl,hk,((hN.same s1).same s3).same s4,p3,hR _ _ ⟨pl,rfl,λz' hz'=>?_⟩ s4⟩
   rw[hzi]at hz'
   cases hz'
   exact⟨s',p1,p2⟩
  ·obtain⟨ps,rfl,hps⟩:=Zk5 (Rel:=λi pl=>∀z,(Zx sh g none sn x)[i]?=some z->∃s',l[pl]?=some s'/\s'.at_=z.at_) ys hy
   refine λa da na nda nea=>⟨a,da,_,rfl,rfl,Ze,λH4 f4 k4=>⟨rfl,k H4 a ((s1.trans s3).trans (Same.made na nda k4)) ?_⟩⟩
   have s4:=Same.made na nda k4
   refine⟨ps,⟨da,_,D,f4,rfl,rfl,s4 _ _ f3,s1.free hD⟩,?_,λj pl z e1 e2=>hps j pl e1 z e2⟩
   rw[Zi,length_map,c2]at hl
   exact hl
noncomputable def spSF (P:Program)(w:World)(C CG CM CS:Addr):Sp:=λvs H Q _=>∃(p q mo d:Addr) (sh:Vawctb.Shape) (g:Graph) (l:List Vawctb.Seen) (s:Vawctb.Seen),vs=[.ref p,.ref q,.ref mo,.ref d]/\CacheAt C H p sh/\ShOk sh/\GraphAt CG H q g/\GrOk g/\MomAt CM H mo s.at_ s.way/\NDAt P w H d (Vq l)/\AllOk sh g none l/\s∈l/\
 ∀(H':Hp) (t:Addr),Same H H'->StepsAt CS sh g l s (λla=>H la=none) H' t->Q (.ref t) H'
theorem Z5s:FnScope ["cache","graph","moment","places","line"] ["cache","graph","moment","places"] (Zf Se):=#[5]
theorem Zgn {Rel:Nat->Addr->Prop}:∀(ys:List V),(∀(i:Nat) (y:V),ys[i]?=some y->∃a:Addr,y=.ref a/\Rel i a)->∃as:List Addr,ys=as.map V.ref/\∀(i:Nat) (a:Addr),as[i]?=some a->Rel i a:=by
 intro ys
 refine Ur (p:=λys=>(∀(i:Nat) (y:V),ys[i]?=some y->∃a:Addr,y=.ref a/\Rel i a)->∃as:List Addr,ys=as.map V.ref/\∀(i:Nat) (a:Addr),as[i]?=some a->Rel i a) (λ_=>⟨[],rfl,λi p e=>by simp at e⟩) (λys y ih h=>?_) ys
 obtain⟨ps,e1,e2⟩:=ih λi z ez=>h i z (by rw[getElem?_append_left (gse.mp ez).1];exact ez)
 obtain⟨p,rfl,hp⟩:=h ys.length y (by rw[getElem?_append_right (Nat.le_refl _),Nat.sub_self];rfl)
 refine⟨ps++[p],by rw[map_append,e1];rfl,λi q eq=>?_⟩
 have hl:ys.length=ps.length:=by rw[e1,length_map]
 by_cases z:i<ps.length
 ·rw[getElem?_append_left z]at eq
  exact e2 i q eq
 ·rw[getElem?_append_right (by omega)]at eq
  have e0:i-ps.length=0:=by
   have:=(gse.mp eq).1
   simp only[length_singleton]at this
   omega
  rw[e0]at eq
  cases eq
  have:i=ys.length:=by omega
  rw[this]
  exact hp
theorem Z5t (F:Fun K "steps_from" "steps_from" Se f fd)(TM:TMoment K CM)(kL:#[58])(kS:#[84]) :
  FnOk P w K mg base CX0 6 f fd ["cache","graph","moment","places"] (spSF P w C CG CM CS):=by
 exists 0,Z5s
 ·obtain⟨p,q,mo,d,sh,g,l,sn,rfl,hC,h0,hG,gok,hM,hN,hA,hsn,k⟩:=h
  obtain⟨hnode,hca⟩:=hA.ca hsn
  refine⟨_,Zd (Zj (Ti (own:=[("line",4)]) rfl SC.nd (Yc (Zs kL #[2] (Za (pv 1) (Za (Zh (pv 2) rfl) Zc)))) (Yd rfl) (λ_ _ _ _ _=>#[1,4]) (λ_ _ _ _ _=>Yv)
    (λ_ _ _ _ _=>Zs kS hr (Za (pv 0) (Za (pv 1) (Za (pv 2) (Za (pv 4) (Za (pv 3) Zc)))))))),?_⟩
  obtain⟨dm,fm,qm,bm,lm,g1,g2,g3⟩:=hM.fields
  refine⟨_,rfl,_,rfl,mo,CM,dm,fm,_,rfl,g1,TM.cl,TM.node,g2.node,q,g,_,rfl,hG,hnode,λH1 lt s1 f1=>⟨lt,rfl,⟨_,SqL.of f1⟩,λD hD=>?_⟩⟩
  have ht3:=Qj gok sn.at_.node
  refine Zgm (Rel:=λi y H'=>∃a:Addr,y=.ref a/\∀x,(touches g sn.at_.node)[i]?=some x->StepRel CS sh g l sn (λla=>H la=none/\la≠D) H' a x) (λi y Ha Hb h kp hz=>?_) hD (SqL.of f1) (Zg (by rw[length_map];omega)) (λi y H2 R hi s2 hDs hR=>?_) λH2 ys s2 f2 hl hy=>?_
  ·obtain⟨a,rfl,hs⟩:=h
   obtain⟨zs,hzs⟩:=hz
   exact⟨a,rfl,λx hx=>(hs x hx).on (λdx fs e=>kp _ _ e (Xl e hzs (by intro q;cases q))) λb xs fr e=>⟨kp _ _ e fr.2,fr⟩⟩
  ·rw[getElem?_map]at hi
   obtain⟨x,hx,rfl⟩:=Option.map_eq_some_iff.mp hi
   obtain⟨zs,hzs⟩:=hDs
   have s02:=s1.trans s2
   refine⟨rfl,_,rfl,_,rfl,_,rfl,_,rfl,_,rfl,p,q,mo,d,sh,g,l,sn,x,rfl,hC.same s02,h0,hG.same s02,gok,hM.same s02,hN.same s02,hA,hsn,mem_of_getElem? hx,λH3 a s3 r3=>hR _ H3 ⟨a,rfl,λx' hx'=>?_⟩ s3⟩
   rw[hx]at hx'
   cases hx'
   exact r3.on (λ_ _ e=>e) λb xs fr e=>⟨e,s02.free fr,λq=>Zm hzs fr q.symm⟩
  ·obtain⟨as,rfl,has⟩:=Zgn (Rel:=λi a=>∀x,(touches g sn.at_.node)[i]?=some x->StepRel CS sh g l sn (λla=>H la=none/\la≠D) H2 a x) ys hy
   refine k H2 D (s1.trans s2) ⟨s1.free hD,as,f2,?_,λj a x e1 e2=>(has j a e1 x e2).on (λ_ _ e=>e) λb xs fr e=>⟨e,fr.1⟩⟩
   rw[length_map,length_map]at hl
   exact hl
end
noncomputable def zs (l:List Nat):List Int:=l.map λn:Nat=>(n:Int)
theorem Zc5 (l:List Nat):Zl l=(zs l).map V.int:=by unfold Zl zs;rw[List.map_map];rfl
theorem Ziv {l:List Nat}{m:Int}(h:(zs l=[]/\m=0)\/(m∈zs l/\∀z,z∈zs l->z<=m)):m=((maxL l:Nat):Int):=by
 rcases h with⟨h1,h2⟩ | ⟨h1,h2⟩
 ·have:l=[]:=by
   cases l with
   |nil=>rfl
   |cons _ _=>cases h1
  subst this
  exact h2
 ·obtain⟨n,hn,rfl⟩:=mem_map.mp h1
  have h3:n=maxL l:=by
   apply Nat.le_antisymm (Zge hn)
   refine(Zai _ _).mpr λy hy=>?_
   have:=h2 (y:Int) (mem_map.mpr ⟨y,hy,rfl⟩)
   omega
  rw[h3]
noncomputable section
variable {P:Program}{w:World}{K:W.Frag}{mg:Str->Option Value}{base:Heap}{C CB CG CM CS f:Addr}{fd:FuncData}
noncomputable def spBS (CS:Addr):Sp:=λvs H Q _=>∃(a mo:Addr) (Fr:Addr->Prop) (ms:Nat) (ps mv:List Nat),vs=[.ref a,.ref mo]/\Ziu CS Fr H a ms ps/\H mo=some (.lst (Zl mv))/\(∀p∈ps,p<mv.length)/\ps.length<=24/\∀(H':Hp),Same H H'->Q (.int ((ms+maxL (ps.map λp=>mv.getD p 0):Nat):Int)) H'
theorem Z1h:FnScope ["step","most","place"] ["step","most"] (Zf Vw):=#[5]
theorem Z1i (F:Fun K "most_by_step" "most_by_step" Vw f fd)(B:Blt mg)(T:TStep K CS):FnOk P w K mg base CX0 1 f fd ["step","most"] (spBS CS):=by
 exists 0,Z1h
 ·obtain⟨a,mo,Fr,ms,ps,mv,rfl,⟨dx,fs,la,h1,h2,h3,h4,h5⟩,hmo,hp,hz,k⟩:=h
  refine⟨_,Zd (Zj (Ym Xe (Zh (pv 0) rfl) (Zjz rfl rfl B.n_max (Za (Ti (te:=tOp (rIxL K) (tVar 1) (tVar 2)) (own:=[("place",2)]) rfl SC.nd (Yc (Zh (pv 0) rfl)) (Yd rfl) (λ_ _ _ _ _=>#[1,2]) (λ_ _ _ _ _=>Yv)
   (λ_ _ _ _ _=>Yp Zy (pv 1) (pv 2) (λ_ _=>rfl))) Zc) Zn))),?_⟩
  refine⟨_,rfl,a,CS,dx,fs,_,rfl,h1,T.cl,T.miss,h2,_,rfl,a,CS,dx,fs,_,rfl,h1,T.cl,T.places,h3,la,rfl,⟨_,SqL.of h4⟩,λD hD=>?_⟩
  refine Ub (Zl (ps.map λp=>mv.getD p 0)) (by rw[Zi,Zi,length_map]) hD (SqL.of h4) (Zg (by rw[Zi];omega)) (λi x H' R hi s1 hR=>?_) λH1 s1 f1=>?_
  ·obtain⟨n,hn,rfl⟩:=Yr hi
   have hlt:=hp n (mem_of_getElem? hn)
   have hg:(Zl mv)[n]?=some (V.int ((mv.getD n 0:Nat):Int)):=by
    unfold Zl
    rw[getElem?_map,getElem?_eq_getElem hlt,getD_eq_getElem?_getD,getElem?_eq_getElem hlt]
    rfl
   refine⟨rfl,_,rfl,_,rfl,mo,_,_,_,rfl,rfl,SqL.of (s1 _ _ hmo),Ya hg,hR _ _ ?_ (Same.refl _)⟩
   unfold Zl
   rw[getElem?_map,getElem?_map,hn]
   rfl
  ·rw[Zc5]at f1
   refine⟨D,_,0,rfl,rfl,SqL.of f1,λm hm=>⟨_,_,rfl,rfl,?_⟩⟩
   have e:=Ziv hm
   subst e
   have k':=k H1 s1
   rw[Int.natCast_add]at k'
   exact k'
theorem Zaq (sh:Vawctb.Shape)(g:Graph)(k:Nat)(s:Vawctb.Seen)(x:Option Nat):(Zx sh g none s x).map (λz=>best sh g k z.at_)=(uniq (nextOf g s.at_.node)).map λv=>best sh g k (Zd8 sh s.at_ x v):=by
 unfold Zx
 rw[List.map_map]
 refine List.map_congr_left λv _=>?_
 show best sh g k {node:=v,stood:=stoodThen none s.at_,cache:=_}=_
 have e:stoodThen none s.at_=s.at_.stood:=by
  unfold stoodThen
  rw[show((none:Option Nat)==some s.at_.node)=false from rfl,Bool.or_false]
 rw[e]
 rfl
theorem Zk6 {sh:Vawctb.Shape}{g:Graph}{l zs:List Vawctb.Seen}{ps:List Nat}(k:Nat)(h:PlOk l zs ps):(ps.map λp=>(l.map λs=>best sh g k s.at_).getD p 0)=zs.map λz=>best sh g k z.at_:=by
 obtain⟨h1,h2⟩:=h
 refine List.ext_getElem? λj=>?_
 rw[getElem?_map,getElem?_map]
 cases e1:ps[j]? with
 |none =>
  rw[getElem?_eq_none (by have:=List.getElem?_eq_none_iff.mp e1;omega)]
  rfl
 |some p =>
  obtain⟨z,e2⟩:∃z,zs[j]?=some z:=⟨_,getElem?_eq_getElem (by have:=(gse.mp e1).1;omega)⟩
  obtain⟨s',e3,e4⟩:=h2 j p z e1 e2
  rw[e2]
  show some ((l.map λs=>best sh g k s.at_).getD p 0)=some (best sh g k z.at_)
  rw[getD_eq_getElem?_getD,getElem?_map,e3,<-e4]
  rfl
noncomputable def spBT (CS:Addr):Sp:=λvs H Q _=>∃(t mo:Addr) (Fr:Addr->Prop) (sh:Vawctb.Shape) (g:Graph) (l:List Vawctb.Seen) (s:Vawctb.Seen) (n:Nat),vs=[.ref t,.ref mo]/\GrOk g/\StepsAt CS sh g l s Fr H t/\H mo=some (.lst (Zl (l.map λs=>best sh g n s.at_)))/\∀(H':Hp),Same H H'->Q (.int ((best sh g (n+1) s.at_:Nat):Int)) H'
theorem My:FnScope ["steps","most","step"] ["steps","most"] (Zf Vj):=#[5]
theorem Mz (F:Fun K "most_by_steps" "most_by_steps" Vj f fd)(B:Blt mg)(kS:#[85]):FnOk P w K mg base CX0 2 f fd ["steps","most"] (spBT CS):=by
 exists 0,My
 ·obtain⟨t,mo,Fr,sh,g,l,sn,n,rfl,gok,hS,hmo,k⟩:=h
  refine⟨_,Zd (Zj (Yi (Zkm rfl) rfl B.n_max Zbj (Za (Ti (own:=[("step",2)]) rfl SC.nd (Yc (pv 0)) (Yd rfl) (λ_ _ _ _ _=>#[1,2]) (λ_ _ _ _ _=>Yv)
   (λ_ _ _ _ _=>Zs kS hr (Za (pv 2) (Za (pv 1) Zc)))) Zc))),?_⟩
  obtain⟨_,as,a1,a2,a3⟩:=id hS
  have ht3:=Qj gok sn.at_.node
  refine⟨_,rfl,t,rfl,⟨_,SqL.of a1⟩,λD hD=>?_⟩
  refine Ub (Zl ((touches g sn.at_.node).map λx=>missOf sh sn.at_.cache x+maxL ((uniq (nextOf g sn.at_.node)).map λv=>best sh g n (Zd8 sh sn.at_ x v)))) (by rw[Zi,length_map,length_map,a2]) hD (SqL.of a1) (Zg (by rw[length_map];omega)) (λi y H' R hi s1 hR=>?_) λH1 s1 f1=>?_
  ·obtain⟨a,ha,rfl⟩:=Yw hi
   obtain⟨x,hx⟩:∃x,(touches g sn.at_.node)[i]?=some x:=⟨_,getElem?_eq_getElem (by have:=(gse.mp ha).1;omega)⟩
   obtain⟨ps,hst,hpl⟩:=(a3 i a x ha hx).on (H':=H') (Fr':=Fr) (λ_ _ e=>s1 _ _ e) λb xs fr e=>⟨s1 _ _ e,fr⟩
   have hbl:(Zx sh g none sn x).length<=24:=by
    unfold Zx
    rw[length_map]
    exact Sx gok sn.at_.node
   have hpl1:=hpl.1
   refine⟨rfl,_,rfl,_,rfl,a,mo,Fr,_,ps,_,rfl,hst,s1 _ _ hmo,λpp hpp=>?_,by omega,λH2 s2=>hR _ H2 ?_ s2⟩
   ·obtain⟨j,hj⟩:=mem_iff_getElem?.mp hpp
    obtain⟨z,hz⟩:∃z,(Zx sh g none sn x)[j]?=some z:=⟨_,getElem?_eq_getElem (by have:=(gse.mp hj).1;omega)⟩
    obtain⟨s',e3,_⟩:=hpl.2 j pp z hj hz
    rw[length_map]
    exact(gse.mp e3).1
   ·rw[Zk6 n hpl,Zaq]
    unfold Zl
    rw[getElem?_map,getElem?_map,hx]
    rfl
  ·rw[Zc5]at f1
   refine⟨D,_,rfl,SqL.of f1,?_,λm hm1 hm2=>?_⟩
   ·unfold zs
    rw[length_map,length_map]
    exact List.length_pos_iff.mpr (Z3m g sn.at_.node)
   ·have e:=Ziv (.inr ⟨hm1,hm2⟩)
    subst e
    exact k H1 s1
noncomputable def spMM (C CG CM:Addr):Sp:=λvs H Q _=>∃(p q t:Addr) (sh:Vawctb.Shape) (g:Graph) (l m:List Vawctb.Seen) (s0:Vawctb.Seen) (n:Nat),vs=[.ref p,.ref q,.ref t,.int (n:Int)]/\CacheAt C H p sh/\ShOk sh/\GraphAt CG H q g/\GrOk g/\MomsAt CM H t l/\AllOk sh g none l/\l=s0::m/\n<=40/\
 ∀(H':Hp),Same H H'->Q (.int ((best sh g n s0.at_:Nat):Int)) H'
theorem Z2h:FnScope ["cache","graph","moments","nodes","places","steps","most","left","moment","own"] ["cache","graph","moments","nodes"] (Zf Uu):=#[5]
theorem Z2i (F:Fun K "most_misses" "most_misses" Uu f fd)(B:Blt mg)(kP:#[86])(kF:#[87])(kT:#[88]) :
  FnOk P w K mg base CX0 7 f fd ["cache","graph","moments","nodes"] (spMM C CG CM):=by
 exists 0,Z2h
 ·obtain⟨p,q,t,sh,g,l,m,s0,n,rfl,hC,h0,hG,gok,hM,hA,hl0,hn,k⟩:=h
  have hr2:Room 2 _:=hr.mono (by decide)
  have hl4:=hA.few
  refine⟨_,Zb (Jo (i:=4) SC.nd rfl (Or.inr rfl) (Zs kP hr2 (Za (pv 2) Zc)))
   (Zb (Ud (i:=5) (own:=[("moment",8)]) rfl SC.nd rfl rfl rfl (Yc (pv 2)) (Yd rfl) (λ_ _ _ _ _=>#[1,8]) (λ_ _ _ _ _=>Yv)
    (λ_ _ _ _ _=>Zs kF hr (Za (pv 0) (Za (pv 1) (Za (pv 8) (Za (pv 4) Zc))))))
   (Zb (Jo (i:=6) SC.nd rfl (Or.inr rfl) (Ti (own:=[("moment",8)]) rfl SC.nd (Yc (pv 2)) (Yd rfl) (λ_ _ _ _ _=>#[1,8]) (λ_ _ _ _ _=>Yv) (λ_ _ _ _ _=>Zn)))
   (Zb (Yy PassesOwn.never rfl (Jp rfl B.n_range (Za (pv 3) Zc)) (#[1,7])
    (Zd (Jo (i:=6) SC.nd rfl (Or.inr rfl) (Ti (own:=[("own",9)]) rfl SC.nd (Yc (pv 5)) (Yd rfl) (λ_ _ _ _ _=>#[1,9]) (λ_ _ _ _ _=>Yv)
     (λ_ _ _ _ _=>Zs kT hr2 (Za (pv 9) (Za (pv 6) Zc)))))))
   (Zd (Zj (Yp Zy (pv 6) Zn (λ_ _=>rfl))))))),?_⟩
  refine⟨_,rfl,t,l,rfl,hM,hA.good.nd,hl4,λH1 d s1 n1=>?_⟩
  obtain⟨as,a1,a2,a3⟩:=id hM
  refine⟨_,rfl,t,rfl,⟨_,SqL.of (s1 _ _ a1)⟩,λD hD=>?_⟩
  refine Zgm (Rel:=λi y H'=>∃a:Addr,y=.ref a/\∀z,l[i]?=some z->StepsAt CS sh g l z (λla=>la≠D) H' a) (λi y Ha Hb h kp hz=>?_) hD (SqL.of (s1 _ _ a1)) (Zg (by rw[length_map];omega)) (λi y H2 R hi s2 hDs hR=>?_) λH2 ys s2 f2 hl hy=>?_
  ·obtain⟨a,rfl,hs⟩:=h
   obtain⟨zs,hzs⟩:=hz
   exact⟨a,rfl,λx hx=>(hs x hx).on (λa dx fs e=>kp _ _ e (Xl e hzs (by intro q;cases q))) λb xs fr e=>⟨kp _ _ e fr,fr⟩⟩
  ·obtain⟨a,ha,rfl⟩:=Yw hi
   obtain⟨z,hzi⟩:∃z,l[i]?=some z:=⟨_,getElem?_eq_getElem (by have:=(gse.mp ha).1;omega)⟩
   obtain⟨zs,hzs⟩:=hDs
   have s02:=s1.trans s2
   refine⟨rfl,_,rfl,_,rfl,_,rfl,_,rfl,p,q,a,d,sh,g,l,z,rfl,hC.same s02,h0,hG.same s02,gok,(a3 i a z ha hzi).same s02,n1.same s2,hA,mem_of_getElem? hzi,λH3 sl s3 r3=>hR _ H3 ⟨sl,rfl,λx' hx'=>?_⟩ s3⟩
   rw[hzi]at hx'
   cases hx'
   exact r3.on (λ_ _ _ e=>e) λb xs fr e=>⟨e,λq=>Zm hzs fr q.symm⟩
  ·obtain⟨ss,rfl,hss⟩:=Zgn (Rel:=λi a=>∀z,l[i]?=some z->StepsAt CS sh g l z (λla=>la≠D) H2 a) ys hy
   rw[length_map,length_map,a2]at hl
   have s02:=s1.trans s2
   refine⟨_,rfl,t,rfl,⟨_,SqL.of (s02 _ _ a1)⟩,λD3 hD3=>?_⟩
   refine Ub (Zl (l.map λs=>best sh g 0 s.at_)) (by rw[Zi,length_map,length_map,a2]) hD3 (SqL.of (s02 _ _ a1)) (Zg (by rw[length_map];omega)) (λi y H' R hi s3 hR=>?_) λH3 s3 f3=>?_
   ·obtain⟨a,ha,rfl⟩:=Yw hi
    obtain⟨z,hzi⟩:∃z,l[i]?=some z:=⟨_,getElem?_eq_getElem (by have:=(gse.mp ha).1;omega)⟩
    refine⟨rfl,hR _ _ ?_ (Same.refl _)⟩
    unfold Zl
    rw[getElem?_map,getElem?_map,hzi]
    rfl
   ·refine⟨_,rfl,(n:Int),rfl,by omega,by omega,Pb (λj σ H'=>∃(mo:Addr) (v7:Option V),σ=[some (.ref p),some (.ref q),some (.ref t),some (.int (n:Int)),some (.ref d),some (.ref D),some (.ref mo),v7,none,none]/\Same H2 H'/\H' mo=some (.lst (Zl (l.map λs=>best sh g j s.at_))))
     ⟨D3,none,rfl,s3,f3⟩ ?_ ?_⟩
    ·rintro j σ H4 hj ⟨mo,v7,rfl,s4,f4⟩
     refine⟨_,rfl,D,rfl,⟨_,SqL.of (s4 _ _ f2)⟩,λD5 hD5=>?_⟩
     refine Ub (Zl (l.map λs=>best sh g (j+1) s.at_)) (by rw[Zi,length_map,length_map];omega) hD5 (SqL.of (s4 _ _ f2)) (Zg (by rw[length_map];omega)) (λi y H' R hi s5 hR=>?_) λH5 s5 f5=>?_
     ·obtain⟨sl,hsl,rfl⟩:=Yw hi
      obtain⟨z,hzi⟩:∃z,l[i]?=some z:=⟨_,getElem?_eq_getElem (by have:=(gse.mp hsl).1;omega)⟩
      refine⟨rfl,_,rfl,_,rfl,sl,mo,_,sh,g,l,z,j,rfl,gok,(hss i sl hsl z hzi).same (s4.trans s5),s5 _ _ f4,λH6 s6=>hR _ H6 ?_ s6⟩
      unfold Zl
      rw[getElem?_map,getElem?_map,hzi]
      rfl
     ·exact⟨D5,_,rfl,s4.trans s5,f5⟩
    ·rintro σ H4 ⟨mo,v7,rfl,s4,f4⟩
     rw[Int.toNat_natCast]at f4
     refine⟨_,rfl,mo,_,_,V.int ((best sh g n s0.at_:Nat):Int),rfl,rfl,SqL.of f4,?_,k H4 (s02.trans s4)⟩
     subst hl0
     exact Ya (j:=0) rfl
end
abbrev Qq:Stmt:=Tj (top 80) 0
abbrev Wo:Stmt:=top 81
abbrev Uw:Stmt:=top 82
abbrev Vx:Stmt:=top 83
abbrev Vy:Stmt:=top 95
abbrev Sf:Stmt:=top 96
abbrev Ux:Stmt:=top 97
abbrev Nk:Stmt:=top 98
abbrev Qr:Stmt:=top 99
abbrev Sg:Stmt:=top 100
abbrev Qs:Stmt:=top 101
abbrev Qt:Stmt:=top 102
abbrev Qu:Stmt:=top 104
abbrev Vk:Stmt:=top 108
abbrev Uy:Stmt:=top 109
abbrev Od:Stmt:=top 110
abbrev Sh:Stmt:=top 84
abbrev Vl:Stmt:=top 85
abbrev Qv:Stmt:=top 86
abbrev Uz:Stmt:=top 87
abbrev Qw:Stmt:=top 88
abbrev Si:Stmt:=top 89
abbrev Sj:Stmt:=top 90
abbrev Nl:Stmt:=top 91
abbrev Qx:Stmt:=top 92
abbrev Qy:Stmt:=top 93
abbrev Ta:Stmt:=top 94
structure HeldF (fs:List (Str×V))(pc lw pg:Addr):Prop where
 cache:fs.lookup ("cache":Str)=some (.ref pc)
 warm:fs.lookup ("warm":Str)=some (.ref lw)
 graph:fs.lookup ("graph":Str)=some (.ref pg)
 nsets:fs.lookup ("sets":Str)=none
 nlines:fs.lookup ("lines":Str)=none
 few:fs.length<=3
noncomputable def HeldAt (CH C CG:Addr)(H:Hp)(p:Addr)(s:Vawctb.State):Prop:=∃dx fs pc lw pg,H p=some (.ins CH dx fs)/\HeldF fs pc lw pg/\CacheAt C H pc s.shape/\H lw=some (.lst (Zl s.warm))/\GraphAt CG H pg s.graph
structure StOk (s:Vawctb.State):Prop where
 shape:ShOk s.shape
 graph:GrOk s.graph
 warm:∀x∈s.warm,x<32
 len:s.warm.length<=16
noncomputable def But (p:Addr)(H H':Hp):Prop:=∀b o,H b=some o->b≠p->H' b=some o
theorem But.of {p:Addr}{H H':Hp}(s:Same H H'):But p H H':=λb o e _=>s b o e
theorem But.trans {p:Addr}{H H1 H2:Hp}(a:But p H H1)(b:But p H1 H2):But p H H2:=λc o e n=>b c o (a c o e n) n
theorem But.upd {p:Addr}{H H':Hp}{o:HO}(a:But p H H'):But p H (L2.upd H' p o):=λb u e n=>by rw[Zk n];exact a b u e n
theorem HeldAt.same {CH C CG:Addr}{H H':Hp}{p:Addr}{s:Vawctb.State}(h:HeldAt CH C CG H p s)(z:Same H H'):HeldAt CH C CG H' p s:=by
 obtain⟨dx,fs,pc,lw,pg,h1,h2,h3,h4,h5⟩:=h
 exact⟨dx,fs,pc,lw,pg,z _ _ h1,h2,h3.same z,z _ _ h4,h5.same z⟩
theorem CacheAt.but {C CH:Addr}{H H':Hp}{p pc dx:Addr}{fs:List (Str×V)}{sh:Vawctb.Shape}(h:CacheAt C H pc sh)(hp:H p=some (.ins CH dx fs))(hn:fs.lookup ("sets":Str)=none)(b:But p H H'):CacheAt C H' pc sh:=by
 obtain⟨dx',fs',h1,h2,h3,h4,la,h5,h6⟩:=h
 refine⟨dx',fs',b _ _ h1 (λq=>?_),h2,h3,h4,la,h5,b _ _ h6 (Xl h6 hp (by intro q;cases q))⟩
 rw[q,hp]at h1
 cases h1
 rw[hn]at h2
 cases h2
theorem GraphAt.but {CG CH:Addr}{H H':Hp}{p pg dx:Addr}{fs:List (Str×V)}{g:Graph}(h:GraphAt CG H pg g)(hp:H p=some (.ins CH dx fs))(hn:fs.lookup ("lines":Str)=none)(b:But p H H'):GraphAt CG H' pg g:=by
 obtain⟨dx',fs',ll,el,h1,h2,h3,⟨as,l1,l2,l3⟩,⟨ts,e1,e2,e3⟩⟩:=h
 refine⟨dx',fs',ll,el,b _ _ h1 (λq=>?_),h2,h3,⟨as,b _ _ l1 (Xl l1 hp (by intro q;cases q)),l2,λi a l x y=>b _ _ (l3 i a l x y) (Xl (l3 i a l x y) hp (by intro q;cases q))⟩,
  ⟨ts,b _ _ e1 (Xl e1 hp (by intro q;cases q)),e2,λi a l x y=>b _ _ (e3 i a l x y) (Xl (e3 i a l x y) hp (by intro q;cases q))⟩⟩
 rw[q,hp]at h1
 cases h1
 rw[hn]at h2
 cases h2
theorem Oe {f:Str}{v x:V}:∀{fs:List (Str×V)},fs.lookup f=some x->fs.length=(putF f v fs).length
 |[],h=>by cases h
 |(g,y)::r,h=>by
  show _=(if g=f then(g,v)::r else(g,y)::putF f v r).length
  by_cases e:g=f
  ·rw[if_pos e]
   rfl
  ·rw[if_neg e,length_cons,length_cons]
   have hb:(f==g)=false:=beq_eq_false_iff_ne.mpr λq=>e q.symm
   rw[List.lookup_cons,hb]at h
   rw[Oe h]
theorem HeldAt.setCache {CH C CG:Addr}{H:Hp}{p pc':Addr}{s:Vawctb.State}{sh':Vawctb.Shape}(h:HeldAt CH C CG H p s)(hc:CacheAt C H pc' sh') :
  ∃dx fs,H p=some (.ins CH dx fs)/\fs.length<1000/\HeldAt CH C CG (upd H p (.ins CH dx (putF "cache" (.ref pc') fs))) p {s with shape:=sh'}:=by
 obtain⟨dx,fs,pc,lw,pg,h1,h2,h3,h4,h5⟩:=h
 have b:But p H (upd H p (.ins CH dx (putF "cache" (.ref pc') fs))):=(But.of (Same.refl H)).upd
 have hf:=h2.few
 refine⟨dx,fs,h1,by omega,dx,_,pc',lw,pg,Ze,⟨?_,?_,?_,?_,?_,?_⟩,hc.but h1 h2.nsets b,b _ _ h4 (Xl h4 h1 (by intro q;cases q)),h5.but h1 h2.nlines b⟩
 ·rw[Zz,if_pos rfl]
 ·rw[Zz,if_neg (by decide)];exact h2.warm
 ·rw[Zz,if_neg (by decide)];exact h2.graph
 ·rw[Zz,if_neg (by decide)];exact h2.nsets
 ·rw[Zz,if_neg (by decide)];exact h2.nlines
 ·exact Oe h2.cache▸hf
theorem HeldAt.setWarm {CH C CG:Addr}{H:Hp}{p lw':Addr}{s:Vawctb.State}{w':List Nat}(h:HeldAt CH C CG H p s)(hw:H lw'=some (.lst (Zl w'))) :
  ∃dx fs,H p=some (.ins CH dx fs)/\fs.length<1000/\HeldAt CH C CG (upd H p (.ins CH dx (putF "warm" (.ref lw') fs))) p {s with warm:=w'}:=by
 obtain⟨dx,fs,pc,lw,pg,h1,h2,h3,h4,h5⟩:=h
 have b:But p H (upd H p (.ins CH dx (putF "warm" (.ref lw') fs))):=(But.of (Same.refl H)).upd
 have hf:=h2.few
 refine⟨dx,fs,h1,by omega,dx,_,pc,lw',pg,Ze,⟨?_,?_,?_,?_,?_,?_⟩,h3.but h1 h2.nsets b,b _ _ hw (Xl hw h1 (by intro q;cases q)),h5.but h1 h2.nlines b⟩
 ·rw[Zz,if_neg (by decide)];exact h2.cache
 ·rw[Zz,if_pos rfl]
 ·rw[Zz,if_neg (by decide)];exact h2.graph
 ·rw[Zz,if_neg (by decide)];exact h2.nsets
 ·rw[Zz,if_neg (by decide)];exact h2.nlines
 ·exact Oe h2.warm▸hf
theorem HeldAt.setGraph {CH C CG:Addr}{H:Hp}{p pg':Addr}{s:Vawctb.State}{g':Graph}(h:HeldAt CH C CG H p s)(hg:GraphAt CG H pg' g') :
  ∃dx fs,H p=some (.ins CH dx fs)/\fs.length<1000/\HeldAt CH C CG (upd H p (.ins CH dx (putF "graph" (.ref pg') fs))) p {s with graph:=g'}:=by
 obtain⟨dx,fs,pc,lw,pg,h1,h2,h3,h4,h5⟩:=h
 have b:But p H (upd H p (.ins CH dx (putF "graph" (.ref pg') fs))):=(But.of (Same.refl H)).upd
 have hf:=h2.few
 refine⟨dx,fs,h1,by omega,dx,_,pc,lw,pg',Ze,⟨?_,?_,?_,?_,?_,?_⟩,h3.but h1 h2.nsets b,b _ _ h4 (Xl h4 h1 (by intro q;cases q)),hg.but h1 h2.nlines b⟩
 ·rw[Zz,if_neg (by decide)];exact h2.cache
 ·rw[Zz,if_neg (by decide)];exact h2.warm
 ·rw[Zz,if_pos rfl]
 ·rw[Zz,if_neg (by decide)];exact h2.nsets
 ·rw[Zz,if_neg (by decide)];exact h2.nlines
 ·exact Oe h2.graph▸hf
structure THeld (K:W.Frag)(C:Addr):Prop where
 cl:Cls K C
 cache:NoAttr K C "cache"
 warm:NoAttr K C "warm"
 graph:NoAttr K C "graph"
theorem Jk (x:Int):∀(l:List Int),inV (.int x) (l.map V.int)=l.contains x
 |[]=>rfl
 |a::l=>by
  have ih:=Jk x l
  show(eqV (.int a) (.int x)||inV (.int x) (l.map V.int))=_
  rw[ih,List.contains_cons]
  congr 1
  show(a==x)=(x==a)
  rw[Bool.eq_iff_iff]
  simp only[beq_iff_eq]
  omega
theorem Z8r (l:List Int):(l.map V.int).all Z1o=true:=by
 rw[List.all_map]
 exact List.all_eq_true.mpr λ_ _=>rfl
noncomputable section
variable {P:Program}{w:World}{K:W.Frag}{mg:Str->Option Value}{base:Heap}{C CB CG CH CP f:Addr}{fd:FuncData}
noncomputable def spC (CH C CG:Addr)(n:Option Nat)(mk:List Int->Vawctb.Call):Sp:=λvs H Q _=>∃(p l:Addr) (s:Vawctb.State) (ns:List Int),vs=[.ref p,.ref l]/\HeldAt CH C CG H p s/\StOk s/\H l=some (.lst (ns.map V.int))/\ns.length<=400/\(∀k,n=some k->ns.length=k)/\
 ∀(H':Hp) (t:Addr),But p H H'->HeldAt CH C CG H' p (Vawctb.step s (mk ns)).1->H' t=some (.lst ((Vawctb.step s (mk ns)).2.map V.int))->Q (.ref t) H'
noncomputable def Z3q (CH C CG:Addr):Sp:=λvs H Q _=>∃(p dx:Addr),vs=[.ref p]/\H p=some (.ins CH dx [])/\∀H':Hp,HeldAt CH C CG H' p Vawctb.start->(∀b o,H b=some o->b≠p->H' b=some o)->Q .non H'
theorem Z8s:FnScope ["self"] ["self"] (Zf Qq):=#[5]
theorem Z8t (F:Fun K "__init__" "Held.__init__" Qq f fd)(T:THeld K CH)(kC:#[46])(kG:#[56]) :
  FnOk P w K mg base CX0 3 f fd ["self"] (Z3q CH C CG):=by
 exists 0,Z8s
 ·obtain⟨p,dx,rfl,hp,k⟩:=h
  refine⟨_,Zb (Yq (pv 0) (Wz kC hr (Za Zn (Za Zn (Za Zn (Za (Zv Zc) Zc))))) rfl)
   (Zb (Yq (pv 0) (Zv Zc) rfl)
   (Zd (Yq (pv 0) (Wz kG hr (Za (Zv (Za (Zv Zc) Zc)) (Za (Zv Zc) Zc))) rfl))),?_⟩
  refine⟨Nat.zero_le _,λla hla=>?_⟩
  obtain⟨s1,f1⟩:=newE hla (.lst [])
  generalize upd H la _=H1 at s1 f1 ⊢
  intro x dxc nx nd ne
  refine⟨x,dxc,_,rfl,rfl,Ze,λH2 f2 k2=>⟨rfl,_,rfl,p,CH,dx,[],rfl,?_,T.cl,T.cache,(by show 0<1000;decide),?_⟩⟩
  ·exact(Same.made nx nd k2) _ _ (s1 _ _ hp)
  have s2:=Same.made nx nd k2
  have s12:=s1.trans s2
  have hp2:=s12 _ _ hp
  have c2:CacheAt C H2 x Vawctb.start.shape:=⟨dxc,_,f2,rfl,rfl,rfl,la,rfl,s2 _ _ f1⟩
  have b3:But p H (upd H2 p (.ins CH dx (putF "cache" (.ref x) []))):=(But.of s12).upd
  have c3:CacheAt C (upd H2 p (.ins CH dx (putF "cache" (.ref x) []))) x Vawctb.start.shape:=c2.but hp2 rfl (But.of (Same.refl H2)).upd
  have p3:upd H2 p (.ins CH dx (putF "cache" (.ref x) [])) p=some (.ins CH dx (putF "cache" (.ref x) [])):=Ze
  generalize upd H2 p _=H3 at b3 c3 p3 ⊢
  refine⟨Nat.zero_le _,λlw hlw=>?_⟩
  obtain⟨s4,f4⟩:=newE hlw (.lst [])
  generalize upd H3 lw _=H4 at s4 f4 ⊢
  refine⟨_,rfl,p,CH,dx,_,rfl,s4 _ _ p3,T.cl,T.warm,(by show 1<1000;decide),?_⟩
  have nlp:lw≠p:=Xl f4 (s4 _ _ p3) (by intro q;cases q)
  have b5:But p H (upd H4 p (.ins CH dx (putF "warm" (.ref lw) (putF "cache" (.ref x) [])))):=(b3.trans (But.of s4)).upd
  have c5:CacheAt C (upd H4 p (.ins CH dx (putF "warm" (.ref lw) (putF "cache" (.ref x) [])))) x Vawctb.start.shape:=(c3.same s4).but (s4 _ _ p3) rfl (But.of (Same.refl H4)).upd
  have f5:upd H4 p (.ins CH dx (putF "warm" (.ref lw) (putF "cache" (.ref x) []))) lw=some (.lst []):=Yl f4 nlp
  have p5:upd H4 p (.ins CH dx (putF "warm" (.ref lw) (putF "cache" (.ref x) []))) p=some (.ins CH dx (putF "warm" (.ref lw) (putF "cache" (.ref x) []))):=Ze
  generalize upd H4 p _=H5 at b5 c5 f5 p5 ⊢
  refine⟨Nat.zero_le _,λl0 hl0=>⟨(by show 1<=sizeLine;decide),λl1 hl1=>?_⟩⟩
  obtain⟨s6,f6⟩:=newE hl0 (.lst [])
  have s7':Same (upd H5 l0 (.lst [])) (upd (upd H5 l0 (.lst [])) l1 (.lst [.ref l0])):=Zq hl1
  have f7:upd (upd H5 l0 (.lst [])) l1 (.lst [.ref l0]) l1=some (.lst [.ref l0]):=Ze
  generalize upd (upd H5 l0 (.lst [])) l1 _=H7 at s7' f7 ⊢
  have g0:=s7' _ _ f6
  have s57:=s6.trans s7'
  refine⟨Nat.zero_le _,λl2 hl2=>?_⟩
  obtain⟨s8,f8⟩:=newE hl2 (.lst [])
  generalize upd H7 l2 _=H8 at s8 f8 ⊢
  intro y dy ny ndy ney
  refine⟨y,dy,_,rfl,rfl,Ze,λH9 f9 k9=>⟨rfl,_,rfl,p,CH,dx,putF "warm" (.ref lw) (putF "cache" (.ref x) []),rfl,?_,T.cl,T.graph,(by show 2<1000;decide),?_⟩⟩
  ·exact(Same.made ny ndy k9) _ _ (s8 _ _ (s57 _ _ p5))
  have s9:=Same.made ny ndy k9
  have s59:=(s57.trans s8).trans s9
  have p9:=s59 _ _ p5
  have b9:But p H9 (upd H9 p (.ins CH dx (putF "graph" (.ref y) (putF "warm" (.ref lw) (putF "cache" (.ref x) []))))):=(But.of (Same.refl H9)).upd
  have g9:GraphAt CG H9 y Vawctb.start.graph:=⟨dy,_,l1,l2,f9,rfl,rfl,⟨[l0],s9 _ _ (s8 _ _ f7),rfl,λi a l ha hl=>?_⟩,⟨[],s9 _ _ f8,rfl,λi t e ht=>by simp at ht⟩⟩
  ·refine k _ ⟨dx,_,x,lw,y,Ze,⟨rfl,rfl,rfl,rfl,rfl,(by show 3<=3;exact Nat.le_refl 3)⟩,(c5.same s59).but p9 rfl b9,b9 _ _ (s59 _ _ f5) nlp,g9.but p9 rfl b9⟩ ((b5.trans (But.of s59)).trans b9)
  ·match i,ha,hl with
   |0,ha,hl =>
    cases ha
    cases hl
    exact s9 _ _ (s8 _ _ g0)
   |i+1,ha,hl=>simp at ha
noncomputable def Zgo (CH C CG:Addr):Sp:=λvs H Q _=>∃(p:Addr) (s:Vawctb.State),vs=[.ref p]/\HeldAt CH C CG H p s/\StOk s/\∀(H':Hp) (q:Addr),Same H H'->StateAt H' q (firstCache s)->Q (.ref q) H'
theorem Nm:FnScope ["held"] ["held"] (Zf Wo):=#[5]
theorem Nn (F:Fun K "state_at_first" "state_at_first" Wo f fd)(T:THeld K CH)(TP:TPassage K CP)(kp:#[49]):FnOk P w K mg base CX0 6 f fd ["held"] (Zgo CH C CG):=by
 exists 0,Nm
 ·obtain⟨p,s,rfl,⟨dx,fs,pc,lw,pg,h1,h2,h3,h4,h5⟩,ok,k⟩:=h
  refine⟨_,Zd (Zj (Zh (Zs kp hr (Za (Zh (pv 0) rfl) (Za (Zh (pv 0) rfl) Zc))) rfl)),?_⟩
  have hw:=ok.len
  refine⟨_,rfl,p,CH,dx,fs,_,rfl,h1,T.cl,T.cache,h2.cache,_,rfl,p,CH,dx,fs,_,rfl,h1,T.cl,T.warm,h2.warm,pc,lw,s.shape,s.warm,rfl,h3,ok.shape,SqL.of h4,ok.warm,by omega,λH1 r s1 p1=>?_⟩
  obtain⟨dr,fr,m,q,r1,r2,r3,r4,r5⟩:=p1
  exact⟨r,CP,dr,fr,_,rfl,r1,TP.cl,TP.state,r3,k H1 q s1 r5⟩
noncomputable def Z1j (ns:List Int):Vawctb.Call:=.cache (ns.getD 0 0) (ns.getD 1 0) (ns.getD 2 0)
theorem Z5u:FnScope ["held","numbers","sets","ways","rule"] ["held","numbers"] (Zf Sh):=#[5]
theorem Z5v (F:Fun K "cache_call" "cache_call" Sh f fd)(T:THeld K CH)(kC:#[46])(LW:Cst mg "MOST_WAYS" 4)(LN:Cst mg "OUT_OF_RANGE" (-7)) :
  FnOk P w K mg base CX0 3 f fd ["held","numbers"] (spC CH C CG (some 3) Z1j):=by
 obtain⟨uW,mW,rW⟩:=LW
 obtain⟨uN,mN,rN⟩:=LN
 exists 0,Z5u
 ·obtain⟨p,l,s,ns,rfl,hH,ok,hl,hz,h3,k⟩:=h
  refine⟨_,Zb (#[0,2,Yp Zy (pv 1) Zn (λ_ _=>rfl)])
   (Zb (#[0,3,Yp Zy (pv 1) Zn (λ_ _=>rfl)])
   (Zb (#[0,4,Yp Zy (pv 1) Zn (λ_ _=>rfl)])
   (Zb (Yh (PW.pt (Jm (Zo Vm (pv 2) (Pc (Za Zn (Za Zn (Za Zn Zc)))) rfl) (Jm (Wh (Jf Ol Ol Zn (pv 3) (Zt rfl mW rW))) (Pa (Zo Vm (pv 4) (Pc (Za Zn (Za Zn Zc))) rfl))))) (Zd (Zj (Zv (Za (Zt rfl mN rN) Zc)))) Zr)
   (Zb (Yq (pv 0) (Wz kC hr (Za (pv 2) (Za (pv 3) (Za (pv 4) (Za (Zv Zc) Zc))))) rfl)
   (Zb (Yq (pv 0) (Zv Zc) rfl)
   (Zd (Zj (Zv (Za Zn Zc))))))))),?_⟩
  match ns,h3 3 rfl,hl,k with
  |[a,b,c],_,hl,k =>
   have i0:atI ([a,b,c].map V.int) 0=some (V.int a):=Ya (j:=0) rfl
   have i1:atI ([a,b,c].map V.int) 1=some (V.int b):=Ya (j:=1) rfl
   have i2:atI ([a,b,c].map V.int) 2=some (V.int c):=Ya (j:=2) rfl
   refine⟨_,rfl,l,_,_,_,rfl,rfl,SqL.of hl,i0,_,rfl,l,_,_,_,rfl,rfl,SqL.of hl,i1,_,rfl,l,_,_,_,rfl,rfl,SqL.of hl,i2,?_⟩
   have hstep:Vawctb.step s (Z1j [a,b,c])=if([1,2,4].contains a&&inRange b 1 WAYS&&inRange c 0 1)=true then({s with shape:={sets:=a.toNat,ways:=b.toNat,oldest:=c==1,locked:=[]},warm:=[]},[0]) else(s,[-7]):=rfl
   have bad:([1,2,4].contains a&&inRange b 1 WAYS&&inRange c 0 1)=false->∀H1,Same H H1->1<=sizeLine/\∀t,H1 t=none->Q (.ref t) (upd H1 t (.lst [.int (-7)])):=λhb H1 s1=>by
    rw[hstep,if_neg (by rw[hb];exact Bool.false_ne_true)]at k
    exact⟨(by decide),λt ht=>k _ t (But.of (s1.trans (Zq ht))) (hH.same (s1.trans (Zq ht))) Ze⟩
   refine⟨_,rfl,(by show 3<=sizeLine;decide),λt1 ht1=>⟨t1,_,rfl,.inr (SqT.of Ze),rfl,rfl,_,rfl,?_⟩⟩
   have s1:Same H (upd H t1 (.tup [.int 1,.int 2,.int 4])):=Zq ht1
   show if(!inV (.int a) ([1,2,4].map V.int))=true then _ else _
   rw[Jk]
   generalize upd H t1 _=H1 at s1 ⊢
   refine ite2 (λe=>?_) λe=>?_
   ·refine iteT (bad ?_ H1 s1)
    have:[1,2,4].contains a=false:=by
     cases q:[1,2,4].contains a with
     |false=>rfl
     |true =>
      rw[q]at e
      cases e
    rw[this]
    rfl
   have ha:[1,2,4].contains a=true:=by
    cases q:[1,2,4].contains a with
    |true=>rfl
    |false =>
     rw[q]at e
     exact absurd rfl e
   refine Ve (p1:=λi j=>decide (i<=j)) (p2:=λi j=>decide (i<=j)) 1 b 4 (λR h=>h) (λR h=>⟨_,rfl,h⟩) (λR h=>h) ⟨_,rfl,?_⟩
   have eb:(decide (1<=b)&&decide (b<=4))=inRange b 1 WAYS:=rfl
   show if(!(decide (1<=b)&&decide (b<=4)))=true then _ else _
   rw[eb]
   refine ite2 (λe=>?_) λe=>?_
   ·refine iteT (bad ?_ H1 s1)
    have:inRange b 1 WAYS=false:=by
     cases q:inRange b 1 WAYS with
     |false=>rfl
     |true =>
      rw[q]at e
      cases e
    rw[this,Bool.and_false]
    rfl
   have hb:inRange b 1 WAYS=true:=by
    cases q:inRange b 1 WAYS with
    |true=>rfl
    |false =>
     rw[q]at e
     exact absurd rfl e
   refine⟨_,rfl,(by show 2<=sizeLine;decide),λt2 ht2=>⟨t2,_,rfl,.inr (SqT.of Ze),rfl,rfl,_,rfl,?_⟩⟩
   have s2:Same H1 (upd H1 t2 (.tup [.int 0,.int 1])):=Zq ht2
   show if(!inV (.int c) ([0,1].map V.int))=true then _ else _
   rw[Jk]
   generalize upd H1 t2 _=H2 at s2 ⊢
   have ec:[0,1].contains c=inRange c 0 1:=by
    show _=(decide (0<=c)&&decide (c<=1))
    rw[Bool.eq_iff_iff,Bool.and_eq_true,decide_eq_true_eq,decide_eq_true_eq]
    simp only[List.contains_cons,List.contains_nil,Bool.or_false,Bool.or_eq_true,beq_iff_eq]
    omega
   rw[ec]
   refine ite2 (λe=>?_) λe=>?_
   ·refine bad ?_ H2 (s1.trans s2)
    have:inRange c 0 1=false:=by
     cases q:inRange c 0 1 with
     |false=>rfl
     |true =>
      rw[q]at e
      cases e
    rw[this,Bool.and_false]
   have hc:inRange c 0 1=true:=by
    cases q:inRange c 0 1 with
    |true=>rfl
    |false =>
     rw[q]at e
     exact absurd rfl e
   rw[hstep,if_pos (by rw[ha,hb,hc];rfl)]at k
   have ha':a=1\/a=2\/a=4:=by simpa using ha
   have hb':1<=b/\b<=4:=by
    rw[<-eb,Bool.and_eq_true,decide_eq_true_eq,decide_eq_true_eq]at hb
    exact hb
   have hc':c=0\/c=1:=by
    rw[<-ec]at hc
    simpa using hc
   have s02:=s1.trans s2
   refine⟨_,rfl,_,rfl,_,rfl,Nat.zero_le _,λla hla=>?_⟩
   obtain⟨s3,f3⟩:=newE hla (.lst [])
   generalize upd H2 la _=H3 at s3 f3 ⊢
   intro x dxc nx nd ne
   have hH3:=hH.same (s02.trans s3)
   obtain⟨dxh,fs,hp,hfew,_⟩:∃dxh fs,H3 p=some (.ins CH dxh fs)/\fs.length<1000/\True:=by
    obtain⟨dx,fs,pc,lw,pg,h1,h2,_⟩:=hH3
    have:=h2.few
    exact⟨dx,fs,h1,by omega,trivial⟩
   refine⟨x,dxc,_,rfl,rfl,Ze,λH4 f4 k4=>⟨rfl,_,rfl,p,CH,dxh,fs,rfl,(Same.made nx nd k4) _ _ hp,T.cl,T.cache,hfew,?_⟩⟩
   have s4:=Same.made nx nd k4
   have c4:CacheAt C H4 x {sets:=a.toNat,ways:=b.toNat,oldest:=c==1,locked:=[]}:=by
    refine⟨dxc,_,f4,?_,?_,?_,la,rfl,s4 _ _ f3⟩
    ·show some (V.int a)=some (V.int ((a.toNat:Nat):Int))
     rw[Int.toNat_of_nonneg (by omega)]
    ·show some (V.int b)=some (V.int ((b.toNat:Nat):Int))
     rw[Int.toNat_of_nonneg (by omega)]
    ·show some (V.int c)=some (V.int ((Vawctb.bit (c==1):Nat):Int))
     rcases hc' with q | q <;> subst q <;> rfl
   obtain⟨dx5,fs5,hp5,hf5,hH5⟩:=(hH3.same s4).setCache c4
   rw[s4 _ _ hp]at hp5
   cases hp5
   have b5:But p H (upd H4 p (.ins CH dxh (putF "cache" (.ref x) fs))):=((But.of (s02.trans s3)).trans (But.of s4)).upd
   generalize upd H4 p _=H5 at hH5 b5 ⊢
   refine⟨Nat.zero_le _,λlw hlw=>?_⟩
   obtain⟨s6,f6⟩:=newE hlw (.lst [])
   generalize upd H5 lw _=H6 at s6 f6 ⊢
   obtain⟨dx7,fs7,hp7,hf7,hH7⟩:=(hH5.same s6).setWarm (w':=[]) f6
   refine⟨_,rfl,p,CH,dx7,fs7,rfl,hp7,T.cl,T.warm,hf7,?_⟩
   have b7:But p H (upd H6 p (.ins CH dx7 (putF "warm" (.ref lw) fs7))):=(b5.trans (But.of s6)).upd
   generalize upd H6 p _=H7 at hH7 b7 ⊢
   exact⟨(by show 1<=sizeLine;decide),λt ht=>k _ t (b7.trans (But.of (Zq ht))) (hH7.same (Zq ht)) Ze⟩
end
theorem Of (l:List Nat):Zl l=(l.map λ(n:Nat)=>(n:Int)).map V.int:=by unfold Zl;rw[List.map_map];rfl
theorem Z5w:∀l:List Nat,(l.map λ(n:Nat)=>(n:Int)).sum=((l.sum:Nat):Int)
 |[]=>rfl
 |a::l=>by
  rw[List.map_cons,List.sum_cons,List.sum_cons,Z5w l]
  omega
theorem Jl:∀l:List Bool,(bits l).sum=missCount l
 |[]=>rfl
 |b::l=>by
  have ih:=Jl l
  unfold bits missCount at ih ⊢
  rw[List.map_cons,List.sum_cons,ih,filter_cons]
  cases b with
  |false =>
   show 0+_=_
   rw[if_neg Bool.false_ne_true]
   omega
  |true =>
   show 1+_=_
   rw[if_pos rfl,length_cons]
   omega
theorem Ziw (x:Int):∀(l:List Nat),inV (.int x) (Zl l)=(decide (0<=x)&&l.contains x.toNat)
 |[]=>by simp[Zl,inV]
 |a::l=>by
  have ih:=Ziw x l
  show(eqV (.int (a:Int)) (.int x)||inV (.int x) (Zl l))=_
  rw[ih,List.contains_cons]
  show(((a:Int)==x)||_)=_
  rw[Bool.eq_iff_iff]
  simp only[Bool.or_eq_true,Bool.and_eq_true,beq_iff_eq,decide_eq_true_eq]
  constructor
  ·rintro(q | ⟨q1,q2⟩)
   ·exact⟨by omega,.inl (by omega)⟩
   ·exact⟨q1,.inr q2⟩
  ·rintro⟨q1,q2 | q2⟩
   ·exact .inl (by omega)
   ·exact .inr ⟨q1,q2⟩
noncomputable section
variable {P:Program}{w:World}{K:W.Frag}{mg:Str->Option Value}{base:Heap}{C CB CG CH CP f:Addr}{fd:FuncData}
theorem Yt {Q:VK}{H:Hp}{xs:List Int}(hz:xs.length<=100)(k:∀(H':Hp) (t:Addr),Same H H'->H' t=some (.lst (xs.map V.int))->Q (.ref t) H'):(xs.map V.int).length<=sizeLine/\∀t,H t=none->Q (.ref t) (upd H t (.lst (xs.map V.int))) :=
 ⟨Nat.le_of_lt (Zg (by rw[length_map];omega)),λt ht=>k _ t (Zq ht) Ze⟩
noncomputable def Zc6 (CH C CG:Addr):Sp:=λvs H Q _=>∃(p l:Addr) (s:Vawctb.State) (ls:List Nat),vs=[.ref p,.ref l]/\HeldAt CH C CG H p s/\H l=some (.lst (Zl ls))/\
 ∀(H':Hp) (t:Addr),But p H H'->HeldAt CH C CG H' p (withLocked s ls)->H' t=some (.lst ([0,(ls.length:Int)].map V.int))->Q (.ref t) H'
theorem Ja:FnScope ["held","locked","cache"] ["held","locked"] (Zf Vl):=#[5]
theorem Jb (F:Fun K "change_locked" "change_locked" Vl f fd)(B:Blt mg)(T:THeld K CH)(TC:TCache K C)(kC:#[46]):FnOk P w K mg base CX0 3 f fd ["held","locked"] (Zc6 CH C CG):=by
 exists 0,Ja
 ·obtain⟨p,l,s,ls,rfl,hH,hl,k⟩:=h
  refine⟨_,Zb (#[0,2,Zh (pv 0) rfl])
   (Zb (Yq (pv 0) (Wz kC hr (Za (Zh (pv 2) rfl) (Za (Zh (pv 2) rfl) (Za (Zh (pv 2) rfl) (Za (pv 1) Zc))))) rfl)
   (Zd (Zj (Zv (Za Zn (Za (#[6,Za (pv 1) Zc]) Zc)))))),?_⟩
  obtain⟨dx,fs,pc,lw,pg,h1,h2,⟨dc,fc,c1,c2⟩,h4,h5⟩:=id hH
  refine⟨_,rfl,p,CH,dx,fs,_,rfl,h1,T.cl,T.cache,h2.cache,?_⟩
  refine⟨_,rfl,pc,C,dc,fc,_,rfl,c1,TC.cl,TC.sets,c2.sets,_,rfl,pc,C,dc,fc,_,rfl,c1,TC.cl,TC.ways,c2.ways,_,rfl,pc,C,dc,fc,_,rfl,c1,TC.cl,TC.rule,c2.rule,_,rfl,λx dxc nx nd ne=>?_⟩
  have hfew:=h2.few
  refine⟨x,dxc,_,rfl,rfl,Ze,λH4 f4 k4=>⟨rfl,_,rfl,p,CH,dx,fs,rfl,(Same.made nx nd k4) _ _ h1,T.cl,T.cache,by omega,?_⟩⟩
  have s4:=Same.made nx nd k4
  have c4:CacheAt C H4 x {s.shape with locked:=ls}:=⟨dxc,_,f4,rfl,rfl,rfl,l,rfl,s4 _ _ hl⟩
  obtain⟨dx5,fs5,hp5,hf5,hH5⟩:=(hH.same s4).setCache c4
  rw[s4 _ _ h1]at hp5
  cases hp5
  have b5:But p H (upd H4 p (.ins CH dx (putF "cache" (.ref x) fs))):=(But.of s4).upd
  have l5:upd H4 p (.ins CH dx (putF "cache" (.ref x) fs)) l=some (.lst (Zl ls)):=Yl (s4 _ _ hl) (Xl hl h1 (by intro q;cases q))
  generalize upd H4 p _=H5 at hH5 b5 l5 ⊢
  refine⟨_,rfl,l,_,rfl,.inl (SqL.of l5),?_⟩
  rw[Zi]
  exact Yt (xs:=[0,(ls.length:Int)]) (by show 2<=100;decide) λH6 t s6 f6=>k H6 t (b5.trans (But.of s6)) (hH5.same s6) f6
noncomputable def mk1 (c:Int->Vawctb.Call)(ns:List Int):Vawctb.Call:=c (ns.getD 0 0)
theorem Z8u:FnScope ["held","numbers","line"] ["held","numbers"] (Zf Qv):=#[5]
theorem Z8v (F:Fun K "lock_call" "lock_call" Qv f fd)(T:THeld K CH)(TC:TCache K C)(kL:#[41])(kR:#[40])(kX:#[62])
  (L3:Cst mg "NOT_THERE" (-3)) (L9:Cst mg "NO_ROOM" (-9)):FnOk P w K mg base CX0 4 f fd ["held","numbers"] (spC CH C CG (some 1) (mk1 .lock)):=by
 obtain⟨u3,m3,r3⟩:=L3
 obtain⟨u9,m9,r9⟩:=L9
 exists 0,Z8u
 ·obtain⟨p,l,s,ns,rfl,hH,ok,hl,hz,hn,k⟩:=h
  refine⟨_,Zb (#[0,2,Yp Zy (pv 1) Zn (λ_ _=>rfl)])
   (Zb (Yh (PW.pt (Jm (Wh (Xf (Zs kL #[2] (Za (Zv (Za (pv 2) Zc)) Zc)))) (Pa (Zo Xh (pv 2) (Zh (Zh (pv 0) rfl) rfl) rfl)))) (Zd (Zj (Zv (Za (Zt rfl m3 r3) Zc)))) Zr)
   (Zb (Yh (Zo Ro (Zs kR #[2] (Za (Zh (pv 0) rfl) (Za (pv 2) Zc))) Zn (Xs _)) (Zd (Zj (Zv (Za (Zt rfl m9 r9) Zc)))) Zr)
   (Zd (Zj (Zs kX hr (Za (pv 0) (Za (Ym Pe (Zh (Zh (pv 0) rfl) rfl) (Zv (Za (pv 2) Zc))) Zc))))))),?_⟩
  match ns,hn 1 rfl,hl,k with
  |[x],_,hl,k =>
   have i0:atI ([x].map V.int) 0=some (V.int x):=Ya (j:=0) rfl
   have hstep:Vawctb.step s (mk1 .lock [x])=if(!isLine x||isLocked s.shape x.toNat)=true then(s,[-3]) else if Vawctb.room s.shape (x.toNat % s.shape.sets)=0 then(s,[-9]) else(withLocked s (s.shape.locked++[x.toNat]),0::toInts [s.shape.locked.length+1]):=rfl
   rw[hstep]at k
   obtain⟨dx,fs,pc,lw,pg,h1,h2,⟨dc,fc,c1,c2⟩,h4,h5⟩:=id hH
   obtain⟨la,hla,hlk⟩:=c2.locked
   refine⟨_,rfl,l,_,_,_,rfl,rfl,SqL.of hl,i0,?_⟩
   refine⟨_,rfl,(by show 1<=sizeLine;decide),λt1 ht1=>?_⟩
   obtain⟨s1,f1⟩:=newE ht1 (.lst ([x].map V.int))
   change Same H (upd H t1 (.lst [.int x])) at s1
   change upd H t1 (.lst [.int x]) t1=_ at f1
   generalize upd H t1 _=H1 at s1 f1 ⊢
   refine⟨t1,[x],rfl,SqL.of f1,by show 1<=100000;decide,λH2 s2=>⟨_,rfl,?_⟩⟩
   have s02:=s1.trans s2
   have eL:[x].all isLine=isLine x:=by rw[List.all_cons,List.all_nil,Bool.and_true]
   show if(!([x].all isLine))=true then _ else _
   rw[eL]
   refine ite2 (λe=>?_) λe=>?_
   ·rw[if_pos (by rw[e];rfl)]at k
    exact iteT (Yt (xs:=[-3]) (by show 1<=100;decide) λH3 t s3 f3=>k H3 t (But.of (s02.trans s3)) (hH.same (s02.trans s3)) f3)
   have hx:isLine x=true:=by
    cases q:isLine x with
    |true=>rfl
    |false =>
     rw[q]at e
     exact absurd rfl e
   have hx':=(Xr x).mp hx
   obtain⟨n,rfl⟩:∃n:Nat,x=(n:Int):=⟨x.toNat,by omega⟩
   rw[hx,Int.toNat_natCast]at k
   refine⟨_,rfl,_,rfl,p,CH,dx,fs,_,rfl,s02 _ _ h1,T.cl,T.cache,h2.cache,pc,C,dc,fc,_,rfl,s02 _ _ c1,TC.cl,TC.locked,hla,la,_,rfl,.inl (SqL.of (s02 _ _ hlk)),rfl,Xb _,_,rfl,?_⟩
   show if inV (.int (n:Int)) (Zl s.shape.locked)=true then _ else _
   rw[Xi]
   refine ite2 (λe1=>?_) λe1=>?_
   ·have e1':isLocked s.shape n=true:=e1
    rw[if_pos (by rw[e1'];rfl)]at k
    exact Yt (xs:=[-3]) (by show 1<=100;decide) λH3 t s3 f3=>k H3 t (But.of (s02.trans s3)) (hH.same (s02.trans s3)) f3
   have e1':isLocked s.shape n=false:=Bool.eq_false_iff.mpr e1
   rw[if_neg (by rw[e1'];exact Bool.false_ne_true)]at k
   refine⟨_,rfl,p,CH,dx,fs,_,rfl,s02 _ _ h1,T.cl,T.cache,h2.cache,_,rfl,pc,s.shape,n,rfl,CacheAt.same ⟨dc,fc,c1,c2⟩ s02,ok.shape,λH3 s3=>⟨rfl,_,rfl,?_⟩⟩
   have s03:=s02.trans s3
   have ez:decide (V.int (Vawctb.room s.shape (n % s.shape.sets):Nat)=V.int 0)=decide (Vawctb.room s.shape (n % s.shape.sets)=0):=Xm _ 0
   show if decide (V.int (Vawctb.room s.shape (n % s.shape.sets):Nat)=V.int 0)=true then _ else _
   rw[ez]
   refine ite2 (λe2=>?_) λe2=>?_
   ·rw[if_pos (of_decide_eq_true e2)]at k
    exact Yt (xs:=[-9]) (by show 1<=100;decide) λH4 t s4 f4=>k H4 t (But.of (s03.trans s4)) (hH.same (s03.trans s4)) f4
   rw[if_neg (λq=>e2 (decide_eq_true q))]at k
   refine⟨_,rfl,_,rfl,p,CH,dx,fs,_,rfl,s03 _ _ h1,T.cl,T.cache,h2.cache,pc,C,dc,fc,_,rfl,s03 _ _ c1,TC.cl,TC.locked,hla,_,rfl,(by show 1<=sizeLine;decide),λt4 ht4=>?_⟩
   obtain⟨s4,f4⟩:=newE ht4 (.lst [.int (n:Int)])
   generalize upd H3 t4 _=H4 at s4 f4 ⊢
   have hlen:=ok.shape.len
   refine⟨la,t4,_,_,rfl,rfl,s4 _ _ (s03 _ _ hlk),f4,Nat.le_of_lt (Zg (by rw[Zi];show _+1<=_;omega)),λt5 ht5=>?_⟩
   have en:Zl s.shape.locked++[V.int (n:Int)]=Zl (s.shape.locked++[n]):=by rw[Zu];rfl
   rw[en]
   obtain⟨s5,f5⟩:=newE ht5 (.lst (Zl (s.shape.locked++[n])))
   generalize upd H4 t5 _=H5 at s5 f5 ⊢
   have s05:=(s03.trans s4).trans s5
   refine⟨p,t5,s,_,rfl,hH.same s05,f5,λH6 t b6 hH6 f6=>k H6 t ((But.of s05).trans b6) hH6 ?_⟩
   rw[f6,length_append]
   rfl
theorem Z2j:FnScope ["held","numbers","line","other"] ["held","numbers"] (Zf Uz):=#[5]
theorem Z2k (F:Fun K "unlock_call" "unlock_call" Uz f fd)(T:THeld K CH)(TC:TCache K C)(kX:#[62])
  (L3:Cst mg "NOT_THERE" (-3)):FnOk P w K mg base CX0 4 f fd ["held","numbers"] (spC CH C CG (some 1) (mk1 .unlock)):=by
 obtain⟨u3,m3,r3⟩:=L3
 exists 0,Z2j
 ·obtain⟨p,l,s,ns,rfl,hH,ok,hl,hz,hn,k⟩:=h
  refine⟨_,Zb (Jo (i:=2) SC.nd rfl (Or.inr rfl) (Yp Zy (pv 1) Zn (λ_ _=>rfl)))
   (Zb (Yh (Zo Vm (pv 2) (Zh (Zh (pv 0) rfl) rfl) rfl) (Zd (Zj (Zv (Za (Zt rfl m3 r3) Zc)))) Zr)
   (Zd (Zj (Zs kX hr (Za (pv 0) (Za (Ti (own:=[("other",3)]) rfl SC.nd (Yc (Zh (Zh (pv 0) rfl) rfl)) (Yd rfl) (λ_ _ _ _ _=>#[1,3]) (λ_ _ _ _ _=>Jy (Zo Zj2 (pv 3) (pv 2) (Xs _))) (λ_ _ _ _ _=>pv 3)) Zc)))))),?_⟩
  match ns,hn 1 rfl,hl,k with
  |[x],_,hl,k =>
   have i0:atI ([x].map V.int) 0=some (V.int x):=Ya (j:=0) rfl
   have hstep:Vawctb.step s (mk1 .unlock [x])=if(!isLine x||!isLocked s.shape x.toNat)=true then(s,[-3]) else(withLocked s (s.shape.locked.filter λy=>y != x.toNat),0::toInts [s.shape.locked.length-1]):=rfl
   rw[hstep]at k
   obtain⟨dx,fs,pc,lw,pg,h1,h2,⟨dc,fc,c1,c2⟩,h4,h5⟩:=id hH
   obtain⟨la,hla,hlk⟩:=c2.locked
   refine⟨_,rfl,l,_,_,_,rfl,rfl,SqL.of hl,i0,?_⟩
   refine⟨_,rfl,_,rfl,p,CH,dx,fs,_,rfl,h1,T.cl,T.cache,h2.cache,pc,C,dc,fc,_,rfl,c1,TC.cl,TC.locked,hla,la,_,rfl,.inl (SqL.of hlk),rfl,Xb _,_,rfl,?_⟩
   show if(!inV (.int x) (Zl s.shape.locked))=true then _ else _
   have einv:(!inV (.int x) (Zl s.shape.locked))=(!isLine x||!isLocked s.shape x.toNat):=by
    rw[Ziw]
    show(!(decide (0<=x)&&s.shape.locked.contains x.toNat))=(!isLine x||!s.shape.locked.contains x.toNat)
    cases q:s.shape.locked.contains x.toNat with
    |false=>simp
    |true =>
     have hm:=ok.shape.lt _ (List.contains_iff_mem.mp q)
     have:decide (0<=x)=isLine x:=by
      rw[Bool.eq_iff_iff,decide_eq_true_eq,Xr]
      omega
     rw[this]
     simp
   rw[einv]
   refine ite2 (λe=>?_) λe=>?_
   ·rw[if_pos e]at k
    exact Yt (xs:=[-3]) (by show 1<=100;decide) λH3 t s3 f3=>k H3 t (But.of s3) (hH.same s3) f3
   rw[if_neg e]at k
   have hx:isLine x=true/\s.shape.locked.contains x.toNat=true:=by
    have e:¬(!isLine x||!s.shape.locked.contains x.toNat)=true:=e
    cases q1:isLine x with
    |false =>
     rw[q1]at e
     exact absurd rfl e
    |true =>
     cases q2:s.shape.locked.contains x.toNat with
     |false =>
      rw[q1,q2]at e
      exact absurd rfl e
     |true=>exact⟨rfl,rfl⟩
   have hx':=(Xr x).mp hx.1
   obtain⟨n,rfl⟩:∃n:Nat,x=(n:Int):=⟨x.toNat,by omega⟩
   rw[Int.toNat_natCast]at k hx
   have hlen:=ok.shape.len
   refine⟨_,rfl,_,rfl,p,CH,dx,fs,_,rfl,h1,T.cl,T.cache,h2.cache,pc,C,dc,fc,_,rfl,c1,TC.cl,TC.locked,hla,la,rfl,⟨_,SqL.of hlk⟩,λD hD=>?_⟩
   refine Rt (K:=K) (a:=la) (xs:=Zl s.shape.locked) (λi H'=>Same H H'/\H' D=some (.lst (Zl ((s.shape.locked.take i).filter λy=>y != n)))) ⟨Zq hD,Ze⟩ (λi H' _ ⟨s1,_⟩=>SqL.of (s1 _ _ hlk)) ?_ ?_
   ·rintro i v H' hi ⟨s1,hD'⟩
    obtain⟨y,hy,rfl⟩:=Yr hi
    refine⟨rfl,_,rfl,_,rfl,rfl,_,rfl,?_⟩
    rw[Zw hy,List.filter_append]
    have ey:(!decide (V.int (y:Int)=V.int (n:Int)))=(y != n):=by rw[Xm];rfl
    show if(!decide (V.int (y:Int)=V.int (n:Int)))=true then _ else _
    rw[ey]
    refine ite2 (λe=>?_) λe=>?_
    ·refine⟨_,rfl,_,hD',?_,?_,?_⟩
     ·rw[Zi]
      have h3:=List.length_filter_le (λy=>y != n) (s.shape.locked.take i)
      rw[length_take]at h3
      exact Zg (by omega)
     ·intro b o eb
      rw[Zk (Zm eb hD)]
      exact s1 _ _ eb
     ·rw[Ze,filter_cons,if_pos e,List.filter_nil,Zu]
      rfl
    ·refine⟨s1,?_⟩
     rw[filter_cons,if_neg e,List.filter_nil,append_nil]
     exact hD'
   ·rintro H1 ⟨s1,hD'⟩
    rw[Zi,take_length]at hD'
    refine⟨p,D,s,_,rfl,hH.same s1,hD',λH6 t b6 hH6 f6=>k H6 t ((But.of s1).trans b6) hH6 ?_⟩
    have hfl:=Ui ok.shape.nd (List.contains_iff_mem.mp hx.2)
    rw[f6]
    show some (HO.lst [V.int 0,V.int (((s.shape.locked.filter λy=>y != n).length:Nat):Int)])=some (HO.lst [V.int 0,V.int ((s.shape.locked.length-1:Nat):Int)])
    rw[show(s.shape.locked.filter λy=>y != n).length=s.shape.locked.length-1 by omega]
end
end Sl
namespace Sl
open PySem PySem.Spec PyProof.Rows L2
open Vawctb (Ages ageIn)
noncomputable section
variable {P:Program}{w:World}{K:W.Frag}{mg:Str->Option Value}{base:Heap}{C CB CG CH CP f:Addr}{fd:FuncData}
theorem Wf (l:List Nat):(toInts l).map V.int=Zl l:=by unfold toInts;rw[Of]
theorem Z8w:FnScope ["held","numbers"] ["held","numbers"] (Zf Qw):=#[5]
theorem Z8x (F:Fun K "warm_call" "warm_call" Qw f fd)(B:Blt mg)(T:THeld K CH)(TP:TPassage K CP)(kL:#[41])(kp:#[49])
  (L3:Cst mg "NOT_THERE" (-3)) (L8:Cst mg "TOO_MANY_WARM" (-8)) (L16:Cst mg "MOST_WARM" 16):FnOk P w K mg base CX0 6 f fd ["held","numbers"] (spC CH C CG none .warm):=by
 obtain⟨u3,m3,r3⟩:=L3
 obtain⟨u8,m8,r8⟩:=L8
 obtain⟨u16,m16,r16⟩:=L16
 exists 0,Z8w
 ·obtain⟨p,l,s,ns,rfl,hH,ok,hl,hz,hn,k⟩:=h
  refine⟨_,Zb (Yh (Wh (Xf (Zs kL #[2] (Za (pv 1) Zc)))) (Zd (Zj (Zv (Za (Zt rfl m3 r3) Zc)))) Zr)
   (Zb (Yh (Zo Zgx (#[6,Za (pv 1) Zc]) (Zt rfl m16 r16) (Xs _)) (Zd (Zj (Zv (Za (Zt rfl m8 r8) Zc)))) Zr)
   (Zb (Yq (pv 0) (pv 1) rfl)
   (Zd (Zj (Zv (Za Zn (Za (Yi (Zb4 rfl) rfl B.n_sum Zbk (Za (Zh (Zs kp hr (Za (Zh (pv 0) rfl) (Za (pv 1) Zc))) rfl) Zc)) Zc))))))),?_⟩
  have hstep:Vawctb.step s (.warm ns)=if(!ns.all isLine)=true then(s,[-3]) else if Vawctb.WARM<ns.length then(s,[-8]) else({s with warm:=ns.map Int.toNat},0::toInts [missCount (touchAll s.shape (Vawctb.empty s.shape) (ns.map Int.toNat)).2]):=rfl
  rw[hstep]at k
  refine⟨_,rfl,l,ns,rfl,SqL.of hl,by omega,λH1 s1=>⟨_,rfl,?_⟩⟩
  refine ite2 (λe=>?_) λe=>?_
  ·rw[if_pos e]at k
   exact Yt (xs:=[-3]) (by show 1<=100;decide) λH3 t s3 f3=>k H3 t (But.of (s1.trans s3)) (hH.same (s1.trans s3)) f3
  rw[if_neg e]at k
  have hall:ns.all isLine=true:=by
   cases q:ns.all isLine with
   |true=>rfl
   |false =>
    rw[q]at e
    exact absurd rfl e
  have hl1:=s1 _ _ hl
  refine⟨_,rfl,l,_,rfl,.inl (SqL.of hl1),_,_,rfl,rfl,_,rfl,?_⟩
  show if decide (16<(((ns.map V.int).length:Nat):Int))=true then _ else _
  rw[length_map]
  refine ite2 (λe1=>?_) λe1=>?_
  ·rw[if_pos (by show 16<ns.length;have:=of_decide_eq_true e1;omega)]at k
   exact Yt (xs:=[-8]) (by show 1<=100;decide) λH3 t s3 f3=>k H3 t (But.of (s1.trans s3)) (hH.same (s1.trans s3)) f3
  have h16:ns.length<=16:=Nat.le_of_not_lt λq=>e1 (decide_eq_true (by omega))
  rw[if_neg (by show ¬16<ns.length;omega)]at k
  rw[Up hall]at hl1
  obtain⟨dx2,fs2,hp2,hf2,hH2⟩:=(hH.same s1).setWarm (w':=ns.map Int.toNat) hl1
  refine⟨_,rfl,_,rfl,p,CH,dx2,fs2,rfl,hp2,T.cl,T.warm,hf2,?_⟩
  have b2:But p H (upd H1 p (.ins CH dx2 (putF "warm" (.ref l) fs2))):=(But.of s1).upd
  have l2:upd H1 p (.ins CH dx2 (putF "warm" (.ref l) fs2)) l=some (.lst (Zl (ns.map Int.toNat))):=Yl hl1 (Xl hl1 hp2 (by intro q;cases q))
  generalize upd H1 p _=H2 at hH2 b2 l2 ⊢
  obtain⟨dx,fs,pc,lw,pg,h1,h2,h3,h4,h5⟩:=id hH2
  refine⟨_,rfl,p,CH,dx,fs,_,rfl,h1,T.cl,T.cache,h2.cache,_,rfl,pc,l,s.shape,ns.map Int.toNat,rfl,h3,ok.shape,SqL.of l2,Ps hall,by rw[length_map];omega,λH3 r s3 p3=>?_⟩
  obtain⟨dr,fr,m,q,q1,q2,q3,q4,q5⟩:=p3
  refine⟨r,CP,dr,fr,_,rfl,q1,TP.cl,TP.misses,q2,m,_,rfl,by rw[<-Of];exact SqL.of q4,?_⟩
  rw[Z5w,Jl]
  exact Yt (xs:=0::toInts [missCount (touchAll s.shape (Vawctb.empty s.shape) (ns.map Int.toNat)).2]) (by show 2<=100;decide) λH4 t s4 f4=>k H4 t ((b2.trans (But.of s3)).trans (But.of s4)) ((hH2.same s3).same s4) f4
theorem Z5x:FnScope ["held","numbers","graph"] ["held","numbers"] (Zf Si):=#[5]
theorem Z5y (F:Fun K "graph_call" "graph_call" Si f fd)(B:Blt mg)(T:THeld K CH)(TG:TGraph K CG)(kG:#[89])(L12:Cst mg "NO_GRAPH" (-12)):FnOk P w K mg base CX0 5 f fd ["held","numbers"] (spC CH C CG none .graph):=by
 obtain⟨u3,m3,r3⟩:=L12
 exists 0,Z5x
 ·obtain⟨p,l,s,ns,rfl,hH,ok,hl,hz,hn,k⟩:=h
  refine⟨_,Zb (#[0,2,Zs kG hr (Za (pv 1) Zc)])
   (Zb (Yh (Zo Xp (pv 2) Yb rfl) (Zd (Zj (Zv (Za (Zt rfl m3 r3) Zc)))) Zr)
   (Zb (Yq (pv 0) (pv 2) rfl)
   (Zd (Zj (Zv (Za Zn (Za (#[6,Za (Zh (pv 2) rfl) Zc]) (Za (#[6,Za (Zh (pv 2) rfl) Zc]) Zc)))))))),?_⟩
  refine⟨_,rfl,l,ns,rfl,SqL.of hl,hz,λhN H1 s1=>?_,λg hg H1 t s1 g1=>?_⟩
  ·have hstep:Vawctb.step s (.graph ns)=(s,[-12]):=by
    show(match readGraph ns with
     |none=>(s,[-12])
     |some g=>({s with graph:=g},0::toInts [g.nodes.length,g.edges.length]))=_
    rw[hN]
   rw[hstep]at k
   exact⟨_,rfl,rfl,_,rfl,iteT (Yt (xs:=[-12]) (by show 1<=100;decide) λH3 t s3 f3=>k H3 t (But.of (s1.trans s3)) (hH.same (s1.trans s3)) f3)⟩
  ·have hstep:Vawctb.step s (.graph ns)=({s with graph:=g},0::toInts [g.nodes.length,g.edges.length]):=by
    show(match readGraph ns with
     |none=>(s,[-12])
     |some g=>({s with graph:=g},0::toInts [g.nodes.length,g.edges.length]))=_
    rw[hg]
   rw[hstep]at k
   refine⟨_,rfl,rfl,_,rfl,iteF ?_⟩
   obtain⟨dx2,fs2,hp2,hf2,hH2⟩:=(hH.same s1).setGraph g1
   obtain⟨dx',fs',pc',lw',pg',h1',h2',_⟩:=id (hH.same s1)
   rw[h1']at hp2
   cases hp2
   have gb:=g1.but h1' h2'.nlines (But.of (Same.refl H1)).upd (H':=upd H1 p (.ins CH dx2 (putF "graph" (.ref t) fs2)))
   refine⟨_,rfl,_,rfl,p,CH,dx2,fs2,rfl,h1',T.cl,T.graph,hf2,?_⟩
   have b2:But p H (upd H1 p (.ins CH dx2 (putF "graph" (.ref t) fs2))):=(But.of s1).upd
   generalize upd H1 p _=H2 at hH2 b2 gb ⊢
   obtain⟨dg,fg,ll,el,e1,e2,e3,⟨as,e4,e5,e6⟩,⟨ts,e7,e8,e9⟩⟩:=gb
   refine⟨_,rfl,t,CG,dg,fg,_,rfl,e1,TG.cl,TG.lines,e2,ll,_,rfl,.inl (SqL.of e4),_,rfl,t,CG,dg,fg,_,rfl,e1,TG.cl,TG.edges,e3,el,_,rfl,.inl (SqL.of e7),?_⟩
   rw[length_map,length_map,e5,e8]
   exact Yt (xs:=0::toInts [g.nodes.length,g.edges.length]) (by show 3<=100;decide) λH4 t s4 f4=>k H4 t (b2.trans (But.of s4)) (hH2.same s4) f4
theorem Og (c:Vawcta.Cache)(l:List Nat):cacheRow (c++[l])=cacheRow c++(l.length::l):=by
 unfold cacheRow
 rw[List.flatMap_append,List.flatMap_cons,List.flatMap_nil,append_nil]
noncomputable def Zc7 (K:W.Frag):Sp:=λvs H Q _=>∃(q:Addr) (c:Vawcta.Cache),vs=[.ref q]/\StateAt H q c/\(cacheRow c).length<=100000/\∀(H':Hp) (t:Addr),Same H H'->H t=none->H' t=some (.lst (Zl (cacheRow c)))->Q (.ref t) H'
theorem Z5z:FnScope ["state","told","lines"] ["state"] (Zf Sj):=#[5]
theorem Z6a (F:Fun K "state_told" "state_told" Sj f fd)(B:Blt mg):FnOk P w K mg base CX0 1 f fd ["state"] (Zc7 K):=by
 exists 0,Z5z
 ·obtain⟨q,c,rfl,⟨as,g1,g2,g3⟩,hz,k⟩:=h
  refine⟨_,Zb (#[0,1,Zv Zc])
   (Zb (Yy PassesOwn.never rfl (Zdx (pv 0)) (#[1,2])
    (Zb (Xd (#[3,pv 1,Za (#[6,Za (pv 2) Zc]) Zc]))
    (Zd (Xd (Zjc PySem.F.plainAttrs_list PySem.F.slot_list_extend PySem.F.type_list_extend Zcw (pv 1) (Za (pv 2) Zc))))))
   (Zd (Zj (pv 1)))),?_⟩
  refine⟨Nat.zero_le _,λlt hlt=>?_⟩
  obtain⟨s1,f1⟩:=newE hlt (.lst [])
  generalize upd H lt _=H1 at s1 f1 ⊢
  refine⟨_,rfl,q,rfl,⟨_,SqT.of (s1 _ _ g1)⟩,Ze0 (K:=K) (a:=q) (xs:=as.map V.ref) (λi σ H'=>∃v:Option V,σ=[some (.ref q),some (.ref lt),v]/\Same H H'/\H' lt=some (.lst (Zl (cacheRow (c.take i)))))
   ⟨none,rfl,s1,f1⟩ (λi σ H' _ ⟨_,_,s2,_⟩=>SqT.of (s2 _ _ g1)) ?_ ?_⟩
  ·rintro i y σ H' hi ⟨v,rfl,s2,f2⟩
   obtain⟨a,ha,rfl⟩:=Yw hi
   have hil:i<c.length:=by rw[<-g2];exact(gse.mp ha).1
   obtain⟨l,hl⟩:∃l,c[i]?=some l:=⟨_,getElem?_eq_getElem hil⟩
   have ga:=s2 _ _ (g3 i a l ha hl)
   have hbound:(cacheRow (c.take i)).length+(1+l.length)<=100000:=by
    have e1:(cacheRow (c.take (i+1))).length<=(cacheRow c).length:=by
     have hc:c=c.take (i+1)++c.drop (i+1):=(List.take_append_drop _ _).symm
     have h2:(cacheRow c).length=(cacheRow (c.take (i+1))).length+(cacheRow (c.drop (i+1))).length:=by
      conv=>lhs;rw[hc]
      unfold cacheRow
      rw[List.flatMap_append,length_append]
     omega
    rw[Zw hl,Og,length_append,length_cons]at e1
    omega
   refine⟨_,rfl,.inl ⟨rfl,_,SqL.of f2⟩,_,rfl,a,_,rfl,.inr (SqT.of ga),lt,_,_,rfl,rfl,f2,Zg (by rw[Zi];omega),?_⟩
   obtain⟨s3,f3⟩:=chg (o:=.lst (Zl (cacheRow (c.take i))++[V.int (((Zl l).length:Nat):Int)])) s2 hlt
   generalize upd H' lt _=H3 at s3 f3 ⊢
   refine⟨_,rfl,.inl ⟨rfl,_,SqL.of f3⟩,_,rfl,lt,a,_,Zl l,rfl,rfl,f3,SqT.of (s3 _ _ (g3 i a l ha hl)),Nat.le_of_lt (Zg (by rw[length_append,Zi,Zi];show _+1+_<=_;omega)),?_⟩
   obtain⟨s4,f4⟩:=chg (o:=.lst (Zl (cacheRow (c.take i))++[V.int (((Zl l).length:Nat):Int)]++Zl l)) s3 hlt
   refine⟨_,rfl,s4,?_⟩
   rw[f4,Zw hl,Og,Zu,Zcy,Zi,append_assoc]
   rfl
  ·rintro σ H' ⟨v,rfl,s2,f2⟩
   rw[length_map,g2,take_length]at f2
   exact⟨_,rfl,k H' lt s2 hlt f2⟩
end
theorem Oh {α:Type}(g:α->List Nat)(b:Nat):∀l:List α,(∀x∈l,(g x).length<=b)->(l.flatMap g).length<=l.length*b
 |[],_=>Nat.zero_le _
 |a::l,h=>by
  have h1:=h a mem_cons_self
  have h2:=Oh g b l λx hx=>h x (mem_cons_of_mem _ hx)
  rw[List.flatMap_cons,length_append,length_cons,Nat.add_mul,Nat.one_mul]
  omega
theorem Sk {sh:Vawctb.Shape}{c:Vawcta.Cache}(h:CaOk sh c)(h0:ShOk sh):(cacheRow c).length<=20:=by
 have h1:∀l∈c,(l.length::l).length<=5:=λl hl=>by
  obtain⟨k,hk⟩:=List.getElem?_of_mem hl
  have:=(h.set k l hk).1
  have:=Z4o h0.ways.2 k
  rw[length_cons]
  omega
 have h2:=Oh (λs:List Nat=>s.length::s) 5 c h1
 have h3:c.length<=4:=by
  rw[h.len]
  rcases h0.sets with e | e | e <;> omega
 unfold cacheRow
 have h4:c.length*5<=4*5:=Nat.mul_le_mul_right _ h3
 omega
theorem Yg {s:Vawctb.State}(h:StOk s):CaOk s.shape (firstCache s):=Uj h.shape.pos _ (Zbf _) h.warm
noncomputable section
variable {P:Program}{w:World}{K:W.Frag}{mg:Str->Option Value}{base:Heap}{C CB CG CH CP f:Addr}{fd:FuncData}
theorem Zar:FnScope ["held","numbers","passage"] ["held","numbers"] (Zf Nl):=#[5]
theorem Zas (F:Fun K "row_call" "row_call" Nl f fd)(B:Blt mg)(T:THeld K CH)(TP:TPassage K CP)(kL:#[41])(kF:#[50])(kO:#[53])(kT:#[63])
  (L3:Cst mg "NOT_THERE" (-3)):FnOk P w K mg base CX0 7 f fd ["held","numbers"] (spC CH C CG none .row):=by
 obtain⟨u3,m3,r3⟩:=L3
 exists 0,Zar
 ·obtain⟨p,l,s,ns,rfl,hH,ok,hl,hz,hn,k⟩:=h
  refine⟨_,Zb (Yh (Wh (Xf (Zs kL #[2] (Za (pv 1) Zc)))) (Zd (Zj (Zv (Za (Zt rfl m3 r3) Zc)))) Zr)
   (Zb (#[0,2,Zs kO #[2] (Za (Zh (pv 0) rfl) (Za (Zs kF hr (Za (pv 0) Zc)) (Za (pv 1) Zc)))])
   (Zd (Zj (Ym Pe (Ym Pe (Zv (Za Zn (Za (Yi (Zb4 rfl) rfl B.n_sum Zbk (Za (Zh (pv 2) rfl) Zc)) Zc))) (Zh (pv 2) rfl)) (Zs kT #[2] (Za (Zh (pv 2) rfl) Zc)))))),?_⟩
  have hstep:Vawctb.step s (.row ns)=(s,if(!ns.all isLine)=true then [-3] else 0::toInts (missCount (touchAll s.shape (firstCache s) (ns.map Int.toNat)).2::((touchAll s.shape (firstCache s) (ns.map Int.toNat)).2.map Vawctb.bit++cacheRow (touchAll s.shape (firstCache s) (ns.map Int.toNat)).1))):=rfl
  rw[hstep]at k
  refine⟨_,rfl,l,ns,rfl,SqL.of hl,by omega,λH1 s1=>⟨_,rfl,?_⟩⟩
  refine ite2 (λe=>?_) λe=>?_
  ·rw[if_pos e]at k
   exact Yt (xs:=[-3]) (by show 1<=100;decide) λH3 t s3 f3=>k H3 t (But.of (s1.trans s3)) (hH.same (s1.trans s3)) f3
  rw[if_neg e]at k
  have hall:ns.all isLine=true:=by
   cases q:ns.all isLine with
   |true=>rfl
   |false =>
    rw[q]at e
    exact absurd rfl e
  generalize hxs:ns.map Int.toNat=xs at k
  have hxl:xs.length<=400:=by rw[<-hxs,length_map];exact hz
  have hx32:∀x∈xs,x<32:=by rw[<-hxs];exact Ps hall
  have hl1:=s1 _ _ hl
  rw[Up hall,hxs]at hl1
  obtain⟨dx,fs,pc,lw,pg,h1,h2,h3,h4,h5⟩:=id (hH.same s1)
  have cok:=Yg ok
  refine⟨_,rfl,p,CH,dx,fs,_,rfl,h1,T.cl,T.cache,h2.cache,_,rfl,p,s,rfl,hH.same s1,ok,λH2 q s2 q2=>?_⟩
  refine⟨_,rfl,pc,q,l,s.shape,firstCache s,xs,rfl,h3.same s2,ok.shape,q2,cok,SqL.of (s2 _ _ hl1),hx32,by omega,λH3 r s3 p3=>?_⟩
  have tok:=Uj ok.shape.pos xs cok hx32
  have tlen:=Tp s.shape xs (firstCache s)
  generalize touchAll s.shape (firstCache s) xs=tq at k p3 tok tlen
  have hcr:=Sk tok ok.shape
  obtain⟨dr,fr,m,q',q1,q2',q3,q4,q5⟩:=id p3
  refine⟨_,rfl,r,CP,dr,fr,_,rfl,q1,TP.cl,TP.misses,q2',m,_,rfl,by rw[<-Of];exact SqL.of q4,?_⟩
  rw[Z5w,Jl]
  refine⟨(by show 2<=sizeLine;decide),λt4 ht4=>?_⟩
  obtain⟨s4,f4⟩:=newE ht4 (.lst (Zl [0,missCount tq.2]))
  change Same H3 (upd H3 t4 (.lst [.int 0,.int ((missCount tq.2:Nat):Int)])) at s4
  change upd H3 t4 (.lst [.int 0,.int ((missCount tq.2:Nat):Int)]) t4=_ at f4
  generalize upd H3 t4 _=H4 at s4 f4 ⊢
  refine⟨_,rfl,r,CP,dr,fr,_,rfl,s4 _ _ q1,TP.cl,TP.misses,q2',t4,m,_,_,rfl,rfl,f4,s4 _ _ q4,Nat.le_of_lt (Zg (by rw[Zi,Zi,Z4v];show 2+_<=_;omega)),λt5 ht5=>?_⟩
  rw[<-Zu]
  obtain⟨s5,f5⟩:=newE ht5 (.lst (Zl ([0,missCount tq.2]++bits tq.2)))
  generalize upd H4 t5 _=H5 at s5 f5 ⊢
  refine⟨_,rfl,r,CP,dr,fr,_,rfl,s5 _ _ (s4 _ _ q1),TP.cl,TP.state,q3,q',tq.1,rfl,(q5.same s4).same s5,by omega,λH6 t6 s6 n6 f6=>?_⟩
  refine⟨t5,t6,_,_,rfl,rfl,s6 _ _ f5,f6,Nat.le_of_lt (Zg (by rw[Zi,Zi,length_append,Z4v];show 2+_+_<=_;omega)),λt7 ht7=>?_⟩
  rw[<-Zu]
  have s07:=((((s1.trans s2).trans s3).trans s4).trans s5).trans s6
  refine k _ t7 (But.of (s07.trans (Zq ht7))) (hH.same (s07.trans (Zq ht7))) ?_
  rw[Ze,<-Wf]
  rfl
theorem Zi0 {s:Vawctb.State}(h:StOk s){i:Nat}(hi:1<=i/\i<=4):ShOk (plainShape s i):=⟨h.shape.sets,hi,λy hy=>(nomatch hy),nodup_nil,Nat.zero_le _⟩
theorem Z8y:FnScope ["held","numbers","told","ways","cache"] ["held","numbers"] (Zf Qx):=#[5]
theorem Z8z (F:Fun K "ways_call" "ways_call" Qx f fd)(B:Blt mg)(T:THeld K CH)(TC:TCache K C)(TP:TPassage K CP)(kL:#[41])(kC:#[46])(kp:#[49])
  (L3:Cst mg "NOT_THERE" (-3)) (L4:Cst mg "MOST_WAYS" 4):FnOk P w K mg base CX0 6 f fd ["held","numbers"] (spC CH C CG none .ways):=by
 obtain⟨u3,m3,r3⟩:=L3
 obtain⟨u4,m4,r4⟩:=L4
 exists 0,Z8y
 ·obtain⟨p,l,s,ns,rfl,hH,ok,hl,hz,hn,k⟩:=h
  refine⟨_,Zb (Yh (Wh (Xf (Zs kL #[2] (Za (pv 1) Zc)))) (Zd (Zj (Zv (Za (Zt rfl m3 r3) Zc)))) Zr)
   (Zb (#[0,2,Zv (Za Zn Zc)])
   (Zb (Yy PassesOwn.never rfl (Zdy rfl B.n_range (Za Zn (Za (Ym Xe (Zt rfl m4 r4) Zn) Zc))) (#[1,3])
    (Zb (#[0,4,Wz kC #[2] (Za (Zh (Zh (pv 0) rfl) rfl) (Za (pv 3) (Za (Zh (Zh (pv 0) rfl) rfl) (Za (Zv Zc) Zc))))])
    (Zd (Xd (#[3,pv 2,Za (Yi (Zb4 rfl) rfl B.n_sum Zbk (Za (Zh (Zs kp hr (Za (pv 4) (Za (pv 1) Zc))) rfl) Zc)) Zc])))))
   (Zd (Zj (pv 2))))),?_⟩
  have hstep:Vawctb.step s (.ways ns)=(s,if(!ns.all isLine)=true then [-3] else 0::toInts ([1,2,3,4].map λw=>missCount (touchAll (plainShape s w) (Vawctb.empty s.shape) (ns.map Int.toNat)).2)):=rfl
  rw[hstep]at k
  refine⟨_,rfl,l,ns,rfl,SqL.of hl,by omega,λH1 s1=>⟨_,rfl,?_⟩⟩
  refine ite2 (λe=>?_) λe=>?_
  ·rw[if_pos e]at k
   exact Yt (xs:=[-3]) (by show 1<=100;decide) λH3 t s3 f3=>k H3 t (But.of (s1.trans s3)) (hH.same (s1.trans s3)) f3
  rw[if_neg e]at k
  have hall:ns.all isLine=true:=by
   cases q:ns.all isLine with
   |true=>rfl
   |false =>
    rw[q]at e
    exact absurd rfl e
  generalize hxs:ns.map Int.toNat=xs at k
  have hxl:xs.length<=400:=by rw[<-hxs,length_map];exact hz
  have hx32:∀x∈xs,x<32:=by rw[<-hxs];exact Ps hall
  have hl0:=hl
  rw[Up hall,hxs]at hl0
  generalize hg:(λw=>missCount (touchAll (plainShape s w) (Vawctb.empty s.shape) xs).2)=gw at k
  refine⟨(by show 1<=sizeLine;decide),λlt hlt=>?_⟩
  obtain⟨s2,f2⟩:=newE hlt (.lst [.int 0])
  generalize upd H1 lt _=H2 at s2 f2 ⊢
  have hlt0:H lt=none:=s1.free hlt
  refine⟨_,_,rfl,rfl,1,(4:Int)+1,rfl,⟨by decide,by decide,by decide,by decide⟩,Pb (lo:=1) (n:=4) (λi σ H'=>∃(v3 v4:Option V),σ=[some (.ref p),some (.ref l),some (.ref lt),v3,v4]/\Same H H'/\H' lt=some (.lst (Zl (0::([1,2,3,4].take i).map gw))))
   ⟨none,none,rfl,s1.trans s2,f2⟩ ?_ ?_⟩
  ·rintro i σ H' hi ⟨v3,v4,rfl,s3,f3⟩
   obtain⟨dx,fs,pc,lw,pg,h1,h2,⟨dc,fc,c1,c2⟩,h4,h5⟩:=id (hH.same s3)
   have hway:((1:Int)+(i:Nat))=((i+1:Nat):Int):=by omega
   refine⟨_,rfl,p,CH,dx,fs,_,rfl,h1,T.cl,T.cache,h2.cache,pc,C,dc,fc,_,rfl,c1,TC.cl,TC.sets,c2.sets,_,rfl,_,rfl,p,CH,dx,fs,_,rfl,h1,T.cl,T.cache,h2.cache,pc,C,dc,fc,_,rfl,c1,TC.cl,TC.rule,c2.rule,Nat.zero_le _,λla hla=>?_⟩
   obtain⟨s4,f4⟩:=newE hla (.lst [])
   generalize upd H' la _=H4 at s4 f4 ⊢
   intro x dxc nx nd ne
   refine⟨x,dxc,_,rfl,rfl,Ze,λH5 f5 k5=>⟨rfl,?_⟩⟩
   have s5:=Same.made nx nd k5
   have s05:=(s3.trans s4).trans s5
   have c5:CacheAt C H5 x (plainShape s (i+1)):=by
    refine⟨dxc,_,f5,rfl,?_,rfl,la,rfl,s5 _ _ f4⟩
    show some (V.int ((1:Int)+(i:Nat)))=some (V.int ((i+1:Nat):Int))
    rw[hway]
   have f5':=s5 _ _ (s4 _ _ f3)
   refine⟨_,rfl,.inl ⟨rfl,_,SqL.of f5'⟩,_,rfl,_,rfl,x,l,plainShape s (i+1),xs,rfl,c5,Zi0 ok ⟨by omega,by omega⟩,SqL.of (s05 _ _ hl0),hx32,by omega,λH6 r s6 p6=>?_⟩
   obtain⟨dr,fr,m,q',q1,q2,q3,q4,q5⟩:=p6
   refine⟨r,CP,dr,fr,_,rfl,q1,TP.cl,TP.misses,q2,m,_,rfl,by rw[<-Of];exact SqL.of q4,?_⟩
   rw[Z5w,Jl]
   refine⟨lt,_,_,rfl,rfl,s6 _ _ f5',Zg (by rw[Zi,length_cons,length_map,length_take];omega),?_⟩
   obtain⟨s7,f7⟩:=chg (o:=.lst (Zl (0::([1,2,3,4].take i).map gw)++[V.int ((missCount (touchAll (plainShape s (i+1)) (Vawctb.empty (plainShape s (i+1))) xs).2:Nat):Int)])) (s05.trans s6) hlt0
   refine⟨_,_,rfl,s7,?_⟩
   have e14:[1,2,3,4][i]?=some (i+1):=by
    match i,hi with
    |0,_=>rfl
    |1,_=>rfl
    |2,_=>rfl
    |3,_=>rfl
   have eg:gw (i+1)=missCount (touchAll (plainShape s (i+1)) (Vawctb.empty (plainShape s (i+1))) xs).2:=by rw[<-hg];rfl
   rw[f7,Zw e14,map_append,List.map_cons,List.map_nil,eg]
   show _=some (HO.lst (Zl ((0::([1,2,3,4].take i).map gw)++[_])))
   rw[Zu]
   rfl
  ·rintro σ H' ⟨v3,v4,rfl,s3,f3⟩
   refine⟨_,rfl,k H' lt (But.of s3) (hH.same s3) ?_⟩
   rw[f3]
   show _=some (HO.lst (V.int 0::(toInts ([1,2,3,4].map gw)).map V.int))
   rw[Wf]
   rfl
end
theorem Zdk (l:Ages):agesRow l=l.length::l.flatMap λz=>[z.1,z.2]:=rfl
theorem FD.sorted {kvs:List (Key×V)}{l:Ages}(h:FD kvs (ageIn l))(hl:Srt l):∃ns:List Int,kvs.map (·.1)=ns.map Sum.inl/\ns.length=l.length/\∀ns':List Int,ns'.Perm ns->ns'.Pairwise (·<=·)->ns'=l.map λz=>(z.1:Int):=by
 obtain⟨m,rfl,h2,h3⟩:=h
 have hp:=Ts h2 (Z4w hl) h3
 refine⟨m.map λz=>(z.1:Int),?_,by rw[length_map];exact hp.length_eq,λns' q1 q2=>?_⟩
 ·unfold enc
  rw[List.map_map,List.map_map]
  rfl
 ·have q3:ns'.Perm (l.map λz=>(z.1:Int)):=q1.trans (hp.map _)
  refine List.Perm.eq_of_pairwise (le:=(·<=·)) (λa b _ _ h1 h2=>Int.le_antisymm h1 h2) q2 ?_ q3
  rw[List.pairwise_map]
  exact hl.imp λ{a b} hab=>by omega
noncomputable section
variable {P:Program}{w:World}{K:W.Frag}{mg:Str->Option Value}{base:Heap}{C CB CG CR CH CP f:Addr}{fd:FuncData}
noncomputable def Zix:Sp:=λvs H Q _=>∃(d:Addr) (l:Ages),vs=[.ref d]/\DictAt H d (ageIn l)/\Srt l/\l.length<=32/\∀(H':Hp) (t:Addr),Same H H'->H t=none->H' t=some (.lst (Zl (agesRow l)))->Q (.ref t) H'
theorem Z9a:FnScope ["ages","told","line"] ["ages"] (Zf Qy):=#[5]
theorem Z9b (F:Fun K "ages_told" "ages_told" Qy f fd)(B:Blt mg):FnOk P w K mg base CX0 1 f fd ["ages"] Zix:=by
 exists 0,Z9a
 ·obtain⟨d,l,rfl,⟨kvs,hd,hfd⟩,hsrt,hlen,k⟩:=h
  have hu:=Z4d hr
  refine⟨_,Zb (#[0,1,Zv (Za (Yi Zes rfl B.n_len Zfl (Za (pv 0) Zc)) Zc)])
   (Zb (Yy PassesOwn.never rfl (Yc (Yi (Zcu rfl) rfl B.n_sorted Zfm (Za (pv 0) Zc))) (#[1,2])
    (Zb (Xd (#[3,pv 1,Za (pv 2) Zc]))
    (Zd (Xd (#[3,pv 1,Za (Zen hu (pv 0) (pv 2) (λ_ _=>rfl)) Zc])))))
   (Zd (Zj (pv 1)))),?_⟩
  have hkl:=hfd.len_eq hsrt
  refine⟨_,rfl,d,kvs,rfl,hd,?_⟩
  rw[hkl]
  refine⟨(by show 1<=sizeLine;decide),λlt hlt=>?_⟩
  obtain⟨s1,f1⟩:=newE hlt (.lst [.int (l.length:Int)])
  generalize upd H lt _=H1 at s1 f1 ⊢
  obtain⟨ns,n1,n2,n3⟩:=hfd.sorted hsrt
  refine⟨_,rfl,d,kvs,ns,rfl,s1 _ _ hd,n1,by omega,λns' ls p1 p2 hls=>?_⟩
  have e':=n3 ns' p1 p2
  subst e'
  have en:(l.map λz=>(z.1:Int)).map V.int=Zl (l.map (·.1)):=by rw[Of,List.map_map,List.map_map,List.map_map];rfl
  rw[en]
  obtain⟨s2,f2⟩:=newE hls (.lst (Zl (l.map (·.1))))
  have s12:=s1.trans s2
  have f12:=s2 _ _ f1
  generalize upd H1 ls _=H2 at s2 f2 s12 f12 ⊢
  have hne:ls≠lt:=λq=>by rw[q,f1]at hls;cases hls
  refine⟨ls,rfl,⟨_,SqL.of f2⟩,Xk (K:=K) (a:=ls) (xs:=Zl (l.map (·.1))) (λi σ H'=>∃v:Option V,σ=[some (.ref d),some (.ref lt),v]/\Same H H'/\H' ls=some (.lst (Zl (l.map (·.1))))/\H' lt=some (.lst (Zl (l.length::(l.take i).flatMap λz=>[z.1,z.2]))))
   ⟨none,rfl,s12,f2,f12⟩ (λi σ H' _ ⟨_,_,_,g,_⟩=>SqL.of g) ?_ ?_⟩
  ·rintro i y σ H' hi ⟨v,rfl,s3,g3,f3⟩
   obtain⟨x,hx,rfl⟩:=Yr hi
   rw[getElem?_map]at hx
   obtain⟨z,hz,rfl⟩:∃z,l[i]?=some z/\z.1=x:=by
    cases q:l[i]? with
    |none =>
     rw[q]at hx
     cases hx
    |some z =>
     rw[q]at hx
     exact⟨z,rfl,Option.some.inj hx⟩
   have hfl:((l.take i).flatMap λz=>[z.1,z.2]).length<=64:=by
    have h1:=Oh (λz:Nat×Nat=>[z.1,z.2]) 2 (l.take i) λx _=>Nat.le_refl _
    have h2:(l.take i).length<=32:=by rw[length_take];omega
    have h3:(l.take i).length*2<=32*2:=Nat.mul_le_mul_right _ h2
    omega
   refine⟨_,rfl,.inl ⟨rfl,_,SqL.of f3⟩,_,rfl,lt,_,_,rfl,rfl,f3,Zg (by rw[Zi,length_cons];omega),?_⟩
   obtain⟨s4,f4⟩:=chg (o:=.lst (Zl (l.length::(l.take i).flatMap λz=>[z.1,z.2])++[V.int (z.1:Int)])) s3 hlt
   have g4:upd H' lt (.lst (Zl (l.length::(l.take i).flatMap λz=>[z.1,z.2])++[V.int (z.1:Int)])) ls=some (.lst (Zl (l.map (·.1)))):=Yl g3 hne
   generalize upd H' lt _=H4 at s4 f4 g4 ⊢
   have hget:valV kvs (Sum.inl (z.1:Int))=some (V.int (z.2:Int)):=by
    rw[hfd.get z.1,Z0a hsrt (x:=z.1) (a:=z.2) (mem_of_getElem? hz)]
    rfl
   refine⟨_,rfl,.inl ⟨rfl,_,SqL.of f4⟩,_,rfl,_,rfl,d,V.int (z.2:Int),rfl,.inl ⟨kvs,Sum.inl (z.1:Int),.inl (s4 _ _ hd),rfl,hget.symm⟩,lt,_,_,rfl,rfl,f4,Zg (by rw[length_append,Zi,length_cons];show _+1<=_;omega),?_⟩
   obtain⟨s5,f5⟩:=chg (o:=.lst (Zl (l.length::(l.take i).flatMap λz=>[z.1,z.2])++[V.int (z.1:Int)]++[V.int (z.2:Int)])) s4 hlt
   refine⟨_,rfl,s5,Yl g4 hne,?_⟩
   rw[f5,Zw hz,List.flatMap_append,List.flatMap_cons,List.flatMap_nil,append_nil]
   show _=some (HO.lst (Zl ((l.length::(l.take i).flatMap λz=>[z.1,z.2])++[z.1,z.2])))
   rw[Zu,append_assoc]
   rfl
  ·rintro σ H' ⟨v,rfl,s3,g3,f3⟩
   rw[Zi,length_map,take_length]at f3
   exact⟨_,rfl,k H' lt s3 hlt f3⟩
theorem Zgp {l:Ages}{sh:Vawctb.Shape}(h:GoodA sh l):l.length<=32:=by
 have h2:(l.map (·.1)).length<=(List.range 32).length:=List.Nodup.length_le_of_subset (Z4w h.srt) λy hy=>by
  obtain⟨z,hz,e⟩:=mem_map.mp hy
  rw[<-e]
  exact List.mem_range.mpr (h.lt z.1 z.2 (Z0a h.srt hz)).2
 rw[length_map,length_range]at h2
 exact h2
theorem Zat {sh:Vawctb.Shape}{g:Graph}{c:Vawcta.Cache}(h0:ShOk sh)(gok:GrOk g)(hc:CaOk sh c):OkT sh g (boundsOf sh g c).1:=by
 have okF:=Tc hc
 unfold boundsOf
 have:∀(k:Nat) (t:Vawctb.Table) (n:Nat),OkT sh g t->OkT sh g (Vawctb.rounds sh g (boundsOfState c) k t n).1:=λk=>by
  induction k with
  |zero=>exact λt n h=>h
  |succ k ih =>
   intro t n h
   show OkT sh g (if(Vawctb.round sh g (boundsOfState c) t==t)=true then(t,n+1) else Vawctb.rounds sh g (boundsOfState c) k (Vawctb.round sh g (boundsOfState c) t) (n+1)).1
   split
   ·exact h
   ·exact ih _ _ (Zbd gok.good okF h)
 exact this _ _ _ (Z0g okF)
noncomputable def Zc8 (CH C CG CR CB:Addr):Sp:=λvs H Q _=>∃(p:Addr) (s:Vawctb.State),vs=[.ref p]/\HeldAt CH C CG H p s/\StOk s/\
 ∀(H':Hp) (u:Addr),Same H H'->Zbp CR CB H' u s.graph.nodes.length (boundsOf s.shape s.graph (firstCache s)).2 (en (boundsOf s.shape s.graph (firstCache s)).1)->Q (.ref u) H'
theorem Z2l:FnScope ["held"] ["held"] (Zf Uw):=#[5]
theorem Z2m (F:Fun K "rounds_held" "rounds_held" Uw f fd)(T:THeld K CH)(kF:#[50])(kB:#[90]) :
  FnOk P w K mg base CX0 9 f fd ["held"] (Zc8 CH C CG CR CB):=by
 exists 0,Z2l
 ·obtain⟨p,s,rfl,hH,ok,k⟩:=h
  refine⟨_,Zd (Zj (Zs kB hr (Za (Zh (pv 0) rfl) (Za (Zh (pv 0) rfl) (Za (Zs kF #[2] (Za (pv 0) Zc)) Zc))))),?_⟩
  obtain⟨dx,fs,pc,lw,pg,h1,h2,h3,h4,h5⟩:=id hH
  refine⟨_,rfl,p,CH,dx,fs,_,rfl,h1,T.cl,T.cache,h2.cache,_,rfl,p,CH,dx,fs,_,rfl,h1,T.cl,T.graph,h2.graph,_,rfl,p,s,rfl,hH,ok,λH1 q s1 q1=>?_⟩
  exact⟨pc,pg,q,s.shape,s.graph,firstCache s,rfl,h3.same s1,ok.shape,h5.same s1,ok.graph,q1,Yg ok,λH2 u s2 t2=>k H2 u (s1.trans s2) t2⟩
theorem Z2n:FnScope ["held","numbers","node","bounds"] ["held","numbers"] (Zf Ta):=#[5]
theorem Z2o (F:Fun K "bounds_call" "bounds_call" Ta f fd)(T:THeld K CH)(TB:TBounds K CB)(TR:TRounds K CR)(kH:#[47])(kB:#[64])(kA:#[91])
  (L3:Cst mg "NOT_THERE" (-3)) (L1:Cst mg "NOT_COME_TO_calls" 1):FnOk P w K mg base CX0 10 f fd ["held","numbers"] (spC CH C CG (some 1) (mk1 .bounds)):=by
 obtain⟨u3,m3,r3⟩:=L3
 obtain⟨u1,m1,r1⟩:=L1
 exists 0,Z2n
 ·obtain⟨p,l,s,ns,rfl,hH,ok,hl,hz,hn,k⟩:=h
  have hr1:Room 1 _:=hr.mono (by decide)
  refine⟨_,Zb (#[0,2,Yp Zy (pv 1) Zn (λ_ _=>rfl)])
   (Zb (Yh (Wh (Xf (Zs kH hr1 (Za (Zh (pv 0) rfl) (Za (pv 2) Zc))))) (Zd (Zj (Zv (Za (Zt rfl m3 r3) Zc)))) Zr)
   (Zb (#[0,3,Yp Zy (Zh (Zs kB hr (Za (pv 0) Zc)) rfl) (pv 2) (λ_ _=>rfl)])
   (Zb (Yh (Zo Xp (pv 3) Yb rfl) (Zd (Zj (Zv (Za (Zt rfl m1 r1) Zc)))) Zr)
   (Zd (Zj (Ym Pe (Ym Pe (Zv (Za Zn Zc)) (Zs kA hr1 (Za (Zh (pv 3) rfl) Zc))) (Zs kA hr1 (Za (Zh (pv 3) rfl) Zc)))))))),?_⟩
  match ns,hn 1 rfl,hl,k with
  |[x],_,hl,k =>
   have i0:atI ([x].map V.int) 0=some (V.int x):=Ya (j:=0) rfl
   have hstep:Vawctb.step s (mk1 .bounds [x])=(s,if inRange x 0 ((s.graph.nodes.length:Int)-1)=true then(match boundsAt (boundsOf s.shape s.graph (firstCache s)).1 x.toNat with
     |none=>[1]
     |some b=>0::toInts (agesRow b.sure++agesRow b.maybe)) else [-3]):=rfl
   rw[hstep]at k
   obtain⟨dx,fs,pc,lw,pg,h1,h2,h3,h4,h5⟩:=id hH
   refine⟨_,rfl,l,_,_,_,rfl,rfl,SqL.of hl,i0,?_⟩
   refine⟨_,rfl,p,CH,dx,fs,_,rfl,h1,T.cl,T.graph,h2.graph,_,rfl,pg,s.graph,x,rfl,h5,_,rfl,?_⟩
   refine ite2 (λe=>?_) λe=>?_
   ·rw[if_neg (λq=>by rw[q]at e;cases e)]at k
    exact Yt (xs:=[-3]) (by show 1<=100;decide) λH3 t s3 f3=>k H3 t (But.of s3) (hH.same s3) f3
   have hx:inRange x 0 ((s.graph.nodes.length:Int)-1)=true:=by
    cases q:inRange x 0 ((s.graph.nodes.length:Int)-1) with
    |true=>rfl
    |false =>
     rw[q]at e
     exact absurd rfl e
   rw[if_pos hx]at k
   have hx':0<=x/\x<=(s.graph.nodes.length:Int)-1:=by
    have hx:(decide (0<=x)&&decide (x<=(s.graph.nodes.length:Int)-1))=true:=hx
    rw[Bool.and_eq_true,decide_eq_true_eq,decide_eq_true_eq]at hx
    exact hx
   obtain⟨v,rfl⟩:∃v:Nat,x=(v:Int):=⟨x.toNat,by omega⟩
   rw[Int.toNat_natCast]at k
   have hv:v<s.graph.nodes.length:=by omega
   have cok:=Yg ok
   have tok:=Zat ok.shape ok.graph cok
   refine⟨_,rfl,p,s,rfl,hH,ok,λH2 u0 s02 r2=>?_⟩
   obtain⟨dr,fr,u,e1,e2,e3,t2⟩:=r2
   refine⟨u0,CR,dr,fr,_,rfl,e1,TR.cl,TR.before,e3,?_⟩
   obtain⟨vs,y,g1,g2,g3⟩:=t2.get hv
   refine⟨_,rfl,u,vs,_,y,rfl,rfl,SqL.of g1,Ya g2,?_⟩
   have eb:boundsAt (boundsOf s.shape s.graph (firstCache s)).1 v=en (boundsOf s.shape s.graph (firstCache s)).1 v:=rfl
   rw[eb]at k
   have ok1:=tok.ok v
   generalize en (boundsOf s.shape s.graph (firstCache s)).1 v=o at k g3 ok1
   refine⟨_,rfl,rfl,_,rfl,?_⟩
   cases o with
   |none =>
    have g3:y=.non:=g3
    subst g3
    exact Yt (xs:=[1]) (by show 1<=100;decide) λH3 t s3 f3=>k H3 t (But.of (s02.trans s3)) (hH.same (s02.trans s3)) f3
   |some b =>
    obtain⟨rb,rfl,dxb,fb,ds,dp,b1,b2,b3,b4,b5⟩:=g3
    have gb:=(ok1 b rfl).good
    have l1:=Zgp gb.sure
    have l2:=Zgp gb.maybe
    have al:∀l:Ages,l.length<=32->(agesRow l).length<=65:=λl hl=>by
     have h1:=Oh (λz:Nat×Nat=>[z.1,z.2]) 2 l λx _=>Nat.le_refl _
     have h3:l.length*2<=32*2:=Nat.mul_le_mul_right _ hl
     rw[Zdk,length_cons]
     omega
    have a1:=al _ l1
    have a2:=al _ l2
    refine⟨(by show 1<=sizeLine;decide),λt3 ht3=>?_⟩
    obtain⟨s3,f3⟩:=newE ht3 (.lst (Zl [0]))
    change Same H2 (upd H2 t3 (.lst [.int 0])) at s3
    change upd H2 t3 (.lst [.int 0]) t3=_ at f3
    generalize upd H2 t3 _=H3 at s3 f3 ⊢
    refine⟨_,rfl,rb,CB,dxb,fb,_,rfl,s3 _ _ b1,TB.cl,TB.sure,b2,ds,b.sure,rfl,b4.same s3,gb.sure.srt,l1,λH4 t4 s4 n4 f4=>?_⟩
    refine⟨t3,t4,_,_,rfl,rfl,s4 _ _ f3,f4,Nat.le_of_lt (Zg (by rw[Zi,Zi];show 1+_<=_;omega)),λt5 ht5=>?_⟩
    rw[<-Zu]
    obtain⟨s5,f5⟩:=newE ht5 (.lst (Zl ([0]++agesRow b.sure)))
    generalize upd H4 t5 _=H5 at s5 f5 ⊢
    have s35:=(s3.trans s4).trans s5
    refine⟨_,rfl,rb,CB,dxb,fb,_,rfl,s35 _ _ b1,TB.cl,TB.possible,b3,dp,b.maybe,rfl,b5.same s35,gb.maybe.srt,l2,λH6 t6 s6 n6 f6=>?_⟩
    refine⟨t5,t6,_,_,rfl,rfl,s6 _ _ f5,f6,Nat.le_of_lt (Zg (by rw[Zi,Zi,length_append];show 1+_+_<=_;omega)),λt7 ht7=>?_⟩
    rw[<-Zu]
    have s07:=(s02.trans s35).trans s6
    refine k _ t7 (But.of (s07.trans (Zq ht7))) (hH.same (s07.trans (Zq ht7))) ?_
    rw[Ze]
    show _=some (HO.lst (V.int 0::(toInts (agesRow b.sure++agesRow b.maybe)).map V.int))
    rw[Wf]
    rfl
end
end Sl
namespace Sl
open PySem PySem.Spec PyProof.Rows L2
theorem Zk7 {K:W.Frag}{a b:Addr}{xs zs:List V}{g:TG}{tb:TS}{D:Ends}{σ:L2.St}{H:Hp}(Pv:Nat->L2.St->Hp->Prop)(h0:Pv 0 σ H)(hxz:zs.length=xs.length)(hl:∀i σ H,Pv i σ H->SqL K H a xs/\SqL K H b zs)
  (hs:∀i x z T σ H,xs[i]?=some x->zs[i]?=some z->Pv i σ H->H T=none->g (.ref T) σ (upd H T (.tup [x,z])) λσ2 H2=>tb {D with nx:=Pv (i+1),ct:=Pv (i+1),bk:=D.nx} σ2 H2) (hd:∀σ H,Pv xs.length σ H->D.nx σ H) :
  ∃W:Nat->Nat->L2.St->Hp->Prop,(∃m,W 0 m σ H)/\∀i m σ H,W i m σ H->
   ((Itz K a b).stop i H/\D.nx σ H)\/((Itz K a b).go i H/\∃N:L2.St->Hp->Prop,(∀σ' H',N σ' H'->∃m',m'<m/\W (i+1) m' σ' H')/\∀x H',(Itz K a b).yld i H x H'->g x σ H' λσ2 H2=>tb {D with nx:=N,ct:=N,bk:=D.nx} σ2 H2):=by
 refine⟨λi m σ H=>m=xs.length-i/\i<=xs.length/\Pv i σ H,⟨xs.length,by simp,Nat.zero_le _,h0⟩,?_⟩
 rintro i m σ H ⟨rfl,hi,p⟩
 obtain⟨q1,q2⟩:=hl i σ H p
 by_cases hlt:i<xs.length
 ·refine .inr ⟨⟨xs,zs,xs[i],zs[i]'(by omega),q1,q2,by simp[hlt],getElem?_eq_getElem _⟩,Pv (i+1),λσ' H' p'=>⟨xs.length-(i+1),by omega,rfl,hlt,p'⟩,λv H' y=>?_⟩
  obtain⟨T,x,z,rfl,hT,rfl,hx,hz'⟩:=y
  exact hs i x z T σ H (hx xs q1) (hz' zs q2) p hT
 ·have e:i=xs.length:=by omega
  subst e
  exact .inl ⟨⟨xs,zs,q1,q2,.inl (Nat.le_refl _)⟩,hd σ H p⟩
noncomputable section
variable {P:Program}{w:World}{K:W.Frag}{mg:Str->Option Value}{base:Heap}{C CB CG CM CR CH CP CS f:Addr}{fd:FuncData}
noncomputable def spMH (CH C CG CM:Addr):Sp:=λvs H Q _=>∃(p:Addr) (s:Vawctb.State) (wt:Option Nat),vs=[.ref p,optV wt]/\HeldAt CH C CG H p s/\StOk s/\∀(H':Hp) (v:V),Same H H'->Zk3 CM H' v (Vawctb.moments s.shape s.graph wt (firstCache s))->Q v H'
theorem Z1k:FnScope ["held","watched"] ["held","watched"] (Zf Vx):=#[5]
theorem Z1l (F:Fun K "moments_held" "moments_held" Vx f fd)(T:THeld K CH)(kF:#[50])(kA:#[92]) :
  FnOk P w K mg base CX0 7 f fd ["held","watched"] (spMH CH C CG CM):=by
 exists 0,Z1k
 ·obtain⟨p,s,wt,rfl,hH,ok,k⟩:=h
  refine⟨_,Zd (Zj (Zs kA #[2] (Za (Zh (pv 0) rfl) (Za (Zh (pv 0) rfl) (Za (Zs kF hr (Za (pv 0) Zc)) (Za (pv 1) Zc)))))),?_⟩
  obtain⟨dx,fs,pc,lw,pg,h1,h2,h3,h4,h5⟩:=id hH
  refine⟨_,rfl,p,CH,dx,fs,_,rfl,h1,T.cl,T.cache,h2.cache,_,rfl,p,CH,dx,fs,_,rfl,h1,T.cl,T.graph,h2.graph,_,rfl,p,s,rfl,hH,ok,λH1 q s1 q1=>?_⟩
  exact⟨_,rfl,pc,pg,q,s.shape,s.graph,firstCache s,wt,rfl,h3.same s1,ok.shape,h5.same s1,ok.graph,q1,Yg ok,λH2 v s2 t2=>k H2 v (s1.trans s2) t2⟩
theorem Z1m:FnScope ["held","numbers","rounds","told","lines","bounds"] ["held","numbers"] (Zf Vy):=#[5]
theorem Z1n (F:Fun K "classes_call" "classes_call" Vy f fd)(B:Blt mg)(T:THeld K CH)(TG:TGraph K CG)(TR:TRounds K CR)(kB:#[64])(kC:#[93]) :
  FnOk P w K mg base CX0 10 f fd ["held","numbers"] (spC CH C CG (some 0) (λ_=>.classes)):=by
 exists 0,Z1m
 ·obtain⟨p,l,s,ns,rfl,hH,ok,hl,hz,hn,k⟩:=h
  refine⟨_,Zb (#[0,2,Zs kB hr (Za (pv 0) Zc)])
   (Zb (#[0,3,Zv (Za Zn (Za (Zh (pv 2) rfl) Zc))])
   (Zb (Yy PassesOwn.never rfl (Zih rfl B.n_zip (Za (Zh (Zh (pv 0) rfl) rfl) (Za (Zh (pv 2) rfl) Zc))) (Te rfl (Yf (#[1,4]) (Yf (#[1,5]) Ww)))
    (Zd (Xd (#[3,pv 3,Za (Zs kC #[2] (Za (Zh (pv 0) rfl) (Za (pv 4) (Za (pv 5) Zc)))) Zc]))))
   (Zd (Zj (pv 3))))),?_⟩
  have hstep:Vawctb.step s .classes=(s,0::toInts ((boundsOf s.shape s.graph (firstCache s)).2::(List.range s.graph.nodes.length).map (Vawctb.classBy s.shape s.graph (boundsOf s.shape s.graph (firstCache s)).1))):=rfl
  rw[hstep]at k
  obtain⟨dx,fs,pc,lw,pg,h1,h2,h3,h4,h5⟩:=id hH
  refine⟨_,rfl,p,s,rfl,hH,ok,λH1 u s1 r1=>?_⟩
  obtain⟨dr,fr,tb,e1,e2,e3,t1⟩:=r1
  generalize boundsOf s.shape s.graph (firstCache s)=bo at k e2 t1
  obtain⟨tt,nn⟩:=bo
  dsimp only at k e2 t1
  refine⟨_,rfl,u,CR,dr,fr,_,rfl,e1,TR.cl,TR.number,e2,(by show 2<=sizeLine;decide),λm hm=>?_⟩
  obtain⟨s2,f2⟩:=newE hm (.lst [.int 0,.int (nn:Int)])
  generalize upd H1 m _=H2 at s2 f2 ⊢
  have s02:=s1.trans s2
  obtain⟨dg,fg,ll,el,d1,d2,d3,⟨as,d4,d5,d6⟩,_⟩:=id h5
  obtain⟨ws,w1,w2,w3⟩:=id t1
  refine⟨_,rfl,p,CH,dx,fs,_,rfl,s02 _ _ h1,T.cl,T.graph,h2.graph,pg,CG,dg,fg,_,rfl,s02 _ _ d1,TG.cl,TG.lines,d2,_,rfl,u,CR,dr,fr,_,rfl,s2 _ _ e1,TR.cl,TR.before,e3,ll,tb,_,_,rfl,SqL.of (s02 _ _ d4),SqL.of (s2 _ _ w1),?_⟩
  have hlen:ws.length=(as.map V.ref).length:=by rw[length_map,w2,d5]
  have hn12:=ok.graph.le
  refine Zk7 (K:=K) (a:=ll) (b:=tb) (xs:=as.map V.ref) (zs:=ws) (λi σ H'=>∃(v4 v5:Option V),σ=[some (.ref p),some (.ref l),some (.ref u),some (.ref m),v4,v5]/\Same H1 H'/\H' m=some (.lst (Zl (0::nn::(List.range i).map (Vawctb.classBy s.shape s.graph tt))))/\i<=12)
   ⟨none,none,rfl,s2,f2,Nat.zero_le _⟩ hlen (λi σ H' ⟨_,_,_,s3,_⟩=>⟨SqL.of (s3 _ _ (s1 _ _ d4)),SqL.of (s3 _ _ w1)⟩) ?_ ?_
  ·rintro i x z Tt σ H3 hx hz3 ⟨v4,v5,rfl,s3,f3,hi12⟩ hTt
   obtain⟨a,ha,rfl⟩:=Yw hx
   obtain⟨s4,f4⟩:=newE hTt (.tup [.ref a,z])
   generalize upd H3 Tt _=H4 at s4 f4 ⊢
   have hil:i<s.graph.nodes.length:=by
    have:=(gse.mp ha).1
    omega
   have hln:s.graph.nodes[i]?=some (Vawctb.linesAt s.graph i):=by
    unfold Vawctb.linesAt
    rw[getD_eq_getElem?_getD,getElem?_eq_getElem hil]
    rfl
   have s14:=s3.trans s4
   have hal:=s14 _ _ (s1 _ _ (d6 i a _ ha hln))
   have hO4:Zgl CB H4 z (boundsAt tt i):=(w3 i z hz3).same s14
   refine⟨Tt,_,rfl,SqT.of f4,rfl,_,_,rfl,_,_,rfl,rfl,_,rfl,.inl ⟨rfl,_,SqL.of (s4 _ _ f3)⟩,_,rfl,p,CH,dx,fs,_,rfl,s14 _ _ (s1 _ _ h1),T.cl,T.cache,h2.cache,_,rfl,_,rfl,pc,a,z,s.shape,_,_,rfl,(h3.same s1).same s14,ok.shape,hal,Ql ok.graph i,hO4,λH5 s5=>?_⟩
   refine⟨m,_,_,rfl,rfl,s5 _ _ (s4 _ _ f3),Zg (by rw[Zi,length_cons,length_cons,length_map,length_range];omega),?_⟩
   refine⟨_,_,rfl,(chg (s14.trans s5) hm).1,?_,by omega⟩
   rw[Ze,List.range_succ,map_append,<-List.cons_append,<-List.cons_append,Zu]
   rfl
  ·rintro σ H3 ⟨v4,v5,rfl,s3,f3,_⟩
   rw[length_map,d5]at f3
   have s03:=s1.trans s3
   refine⟨_,rfl,k H3 m (But.of s03) (hH.same s03) ?_⟩
   rw[f3]
   show _=some (HO.lst (V.int 0::(toInts _).map V.int))
   rw[Wf]
   rfl
end
theorem Oi {CM:Addr}{H:Hp}{v:V}{o:Option (List Vawctb.Seen)}(h:Zk3 CM H v o):decide (v=V.non)=o.isNone:=by
 cases o with
 |none =>
  have h:v=.non:=h
  subst h
  rfl
 |some l =>
  obtain⟨t,rfl,_⟩:=h
  rfl
noncomputable section
variable {P:Program}{w:World}{K:W.Frag}{mg:Str->Option Value}{base:Heap}{C CB CG CM CR CH CP CS f:Addr}{fd:FuncData}
theorem Zk8 (s:Vawctb.State)(ok:StOk s)(l:List Vawctb.Seen)(i:Nat)(hi:i<=12):(Zl (0::l.length::(List.range i).map (classOf s.shape s.graph l))).length<=20:=by
 rw[Zi,length_cons,length_cons,length_map,length_range]
 omega
theorem Z6b:FnScope ["held","numbers","moments","told","node"] ["held","numbers"] (Zf Sf):=#[5]
theorem Z6c (F:Fun K "exact_call" "exact_call" Sf f fd)(B:Blt mg)(T:THeld K CH)(TG:TGraph K CG)(kM:#[42])(kC:#[61])(L2c:Cst mg "TOO_MANY" 2) :
  FnOk P w K mg base CX0 8 f fd ["held","numbers"] (spC CH C CG (some 0) (λ_=>.exact)):=by
 obtain⟨u2,m2,r2⟩:=L2c
 exists 0,Z6b
 ·obtain⟨p,l,s,ns,rfl,hH,ok,hl,hz,hn,k⟩:=h
  refine⟨_,Zb (#[0,2,Zs kM hr (Za (pv 0) (Za Yb Zc))])
   (Zb (Yh (Zo Xp (pv 2) Yb rfl) (Zd (Zj (Zv (Za (Zt rfl m2 r2) Zc)))) Zr)
   (Zb (#[0,3,Zv (Za Zn (Za (#[6,Za (pv 2) Zc]) Zc))])
   (Zb (Yy PassesOwn.never rfl (Jp rfl B.n_range (Za (#[6,Za (Zh (Zh (pv 0) rfl) rfl) Zc]) Zc)) (#[1,4])
    (Zd (Xd (#[3,pv 3,Za (Zs kC #[2] (Za (Zh (pv 0) rfl) (Za (Zh (pv 0) rfl) (Za (pv 2) (Za (pv 4) Zc))))) Zc]))))
   (Zd (Zj (pv 3)))))),?_⟩
  have hstep:Vawctb.step s .exact=(s,match Vawctb.moments s.shape s.graph none (firstCache s) with
   |none=>[2]
   |some l=>0::toInts (l.length::(List.range s.graph.nodes.length).map (classOf s.shape s.graph l))):=rfl
  rw[hstep]at k
  obtain⟨dx,fs,pc,lw,pg,h1,h2,h3,h4,h5⟩:=id hH
  refine⟨_,rfl,p,s,none,rfl,hH,ok,λH1 v s1 m1=>?_⟩
  have hok:=λl (e:Vawctb.moments s.shape s.graph none (firstCache s)=some l)=>Wv ok.shape.pos ok.graph (Yg ok) e
  generalize Vawctb.moments s.shape s.graph none (firstCache s)=o at m1 k hok
  refine⟨_,rfl,rfl,_,rfl,?_⟩
  show if decide (v=V.non)=true then _ else _
  rw[Oi m1]
  cases o with
  |none=>exact iteT (Yt (xs:=[2]) (by show 1<=100;decide) λH3 t s3 f3=>k H3 t (But.of (s1.trans s3)) (hH.same (s1.trans s3)) f3)
  |some ls =>
   obtain⟨hA,_⟩:=hok ls rfl
   obtain⟨t,rfl,m1⟩:=m1
   obtain⟨as,a1,a2,a3⟩:=id m1
   refine iteF ⟨_,rfl,t,_,rfl,.inl (SqL.of a1),(by show 2<=sizeLine;decide),λm hm=>?_⟩
   obtain⟨s2,f2⟩:=newE hm (.lst [.int 0,.int (((as.map V.ref).length:Nat):Int)])
   generalize upd H1 m _=H2 at s2 f2 ⊢
   rw[length_map,a2]at f2
   have s02:=s1.trans s2
   obtain⟨dg,fg,ll,el,d1,d2,d3,⟨bs,d4,d5,d6⟩,_⟩:=id h5
   have hn12:=ok.graph.le
   refine⟨_,rfl,p,CH,dx,fs,_,rfl,s02 _ _ h1,T.cl,T.graph,h2.graph,pg,CG,dg,fg,_,rfl,s02 _ _ d1,TG.cl,TG.lines,d2,ll,_,rfl,.inl (SqL.of (s02 _ _ d4)),_,rfl,?_,?_,?_⟩
   ·show -(2 ^ 62)<=(((bs.map V.ref).length:Nat):Int)
    omega
   ·show(((bs.map V.ref).length:Nat):Int)<2 ^ 62
    rw[length_map,d5]
    omega
   rw[Int.toNat_natCast,length_map,d5]
   refine Pb (λi σ H'=>∃(v4:Option V),σ=[some (.ref p),some (.ref l),some (.ref t),some (.ref m),v4]/\Same H1 H'/\H' m=some (.lst (Zl (0::ls.length::(List.range i).map (classOf s.shape s.graph ls)))))
    ⟨none,rfl,s2,f2⟩ ?_ ?_
   ·rintro i σ H3 hi ⟨v4,rfl,s3,f3⟩
    have s03:=s1.trans s3
    have hcl:=Zk8 s ok ls i (by omega)
    refine⟨_,rfl,.inl ⟨rfl,_,SqL.of f3⟩,_,rfl,p,CH,dx,fs,_,rfl,s03 _ _ h1,T.cl,T.cache,h2.cache,_,rfl,p,CH,dx,fs,_,rfl,s03 _ _ h1,T.cl,T.graph,h2.graph,_,rfl,_,rfl,pc,pg,t,s.shape,s.graph,ls,i,?_,h3.same s03,ok.shape,h5.same s03,ok.graph,m1.same s3,hA.good,hA.few,hi,λH4 s4=>?_⟩
    ·show [V.ref pc,V.ref pg,V.ref t,V.int (0+(i:Int))]=_
     rw[Int.zero_add]
    ·refine⟨m,_,_,rfl,rfl,s4 _ _ f3,Zg (by omega),_,rfl,(chg (s3.trans s4) hm).1,?_⟩
     rw[Ze,List.range_succ,map_append,<-List.cons_append,<-List.cons_append,Zu]
     rfl
   ·rintro σ H3 ⟨v4,rfl,s3,f3⟩
    have s03:=s1.trans s3
    refine⟨_,rfl,k H3 m (But.of s03) (hH.same s03) ?_⟩
    rw[f3]
    show _=some (HO.lst (V.int 0::(toInts _).map V.int))
    rw[Wf]
    rfl
theorem Z9c:FnScope ["held","numbers","cache","graph"] ["held","numbers"] (Zf Qt):=#[5]
theorem Z9d (F:Fun K "size_call" "size_call" Qt f fd)(B:Blt mg)(T:THeld K CH)(TC:TCache K C)(TG:TGraph K CG):FnOk P w K mg base CX0 1 f fd ["held","numbers"] (spC CH C CG (some 0) (λ_=>.size)):=by
 exists 0,Z9c
 ·obtain⟨p,l,s,ns,rfl,hH,ok,hl,hz,hn,k⟩:=h
  refine⟨_,Zb (#[0,2,Zh (pv 0) rfl])
   (Zb (#[0,3,Zh (pv 0) rfl])
   (Zd (Zj (Zv (Za Zn (Za (Zh (pv 2) rfl) (Za (Zh (pv 2) rfl) (Za (Zh (pv 2) rfl) (Za (#[6,Za (Zh (pv 2) rfl) Zc]) (Za (#[6,Za (Zh (pv 0) rfl) Zc]) (Za (#[6,Za (Zh (pv 3) rfl) Zc]) (Za (#[6,Za (Zh (pv 3) rfl) Zc]) Zc)))))))))))),?_⟩
  obtain⟨dx,fs,pc,lw,pg,h1,h2,h3,h4,h5⟩:=id hH
  obtain⟨dc,fc,c1,c2⟩:=id h3
  obtain⟨la,c3,c4⟩:=c2.locked
  obtain⟨dg,fg,ll,el,d1,d2,d3,⟨bs,d4,d5,d6⟩,⟨ts,e4,e5,e6⟩⟩:=id h5
  refine⟨_,rfl,p,CH,dx,fs,_,rfl,h1,T.cl,T.cache,h2.cache,_,rfl,p,CH,dx,fs,_,rfl,h1,T.cl,T.graph,h2.graph,?_⟩
  refine⟨_,rfl,pc,C,dc,fc,_,rfl,c1,TC.cl,TC.sets,c2.sets,_,rfl,pc,C,dc,fc,_,rfl,c1,TC.cl,TC.ways,c2.ways,_,rfl,pc,C,dc,fc,_,rfl,c1,TC.cl,TC.rule,c2.rule,_,rfl,pc,C,dc,fc,_,rfl,c1,TC.cl,TC.locked,c3,la,_,rfl,.inl (SqL.of c4),_,rfl,p,CH,dx,fs,_,rfl,h1,T.cl,T.warm,h2.warm,lw,_,rfl,.inl (SqL.of h4),_,rfl,pg,CG,dg,fg,_,rfl,d1,TG.cl,TG.lines,d2,ll,_,rfl,.inl (SqL.of d4),_,rfl,pg,CG,dg,fg,_,rfl,d1,TG.cl,TG.edges,d3,el,_,rfl,.inl (SqL.of e4),(by show 8<=sizeLine;decide),λt ht=>?_⟩
  refine k _ t (But.of (Zq ht)) (hH.same (Zq ht)) ?_
  rw[Ze,Zi,Zi,length_map,length_map,d5,e5]
  rfl
end
theorem No {x:Int}{n:Nat}:(inRange x 0 ((n:Int)-1)=false)\/∃v:Nat,x=(v:Int)/\v<n/\inRange x 0 ((n:Int)-1)=true:=by
 cases e:inRange x 0 ((n:Int)-1) with
 |false=>exact .inl rfl
 |true =>
  have e':(decide (0<=x)&&decide (x<=(n:Int)-1))=true:=e
  rw[Bool.and_eq_true,decide_eq_true_eq,decide_eq_true_eq]at e'
  exact .inr ⟨x.toNat,by omega,by omega,rfl⟩
theorem Zau (w:Vawctb.Way)(z:Nat×Nat):(w++[z]).flatMap (λz=>[z.1,z.2])=w.flatMap (λz=>[z.1,z.2])++[z.1,z.2]:=by rw[List.flatMap_append];rfl
theorem Np (w:Vawctb.Way):(w.flatMap λz=>[z.1,z.2]).length=2*w.length:=by
 induction w with
 |nil=>rfl
 |cons z w ih =>
  rw[List.flatMap_cons,length_append,ih]
  show 2+2*w.length=2*(w.length+1)
  omega
theorem Ziy {sh:Vawctb.Shape}{g:Graph}{l:List Vawctb.Seen}{v:Nat}(h:classOf sh g l v=3)(hit:Bool):∃wy,wayWhere sh g l v hit=some wy:=by
 cases e:wayWhere sh g l v hit with
 |some wy=>exact⟨wy,rfl⟩
 |none =>
  exfalso
  rw[Qk,List.findSome?_eq_none_iff]at e
  have e2:∀s∈momentsAt l v,∀x∈Vawctb.linesAt g v,¬(Vawctb.hits sh s.at_.cache x==hit)=true:=λs hs x hx=>by
   have e3:=e s hs
   unfold Z8j at e3
   rw[Option.map_eq_none_iff,List.find?_eq_none]at e3
   exact e3 x hx
  unfold classOf at h
  split at h
  ·cases h
  ·dsimp only at h
   split at h
   ·cases h
   ·split at h
    ·cases h
    ·rename_i h1
     split at h
     ·cases h
     ·rename_i h2
      cases hit with
      |true =>
       refine h2 (List.all_eq_true.mpr λs hs=>List.all_eq_true.mpr λx hx=>?_)
       have:=e2 s hs x hx
       cases q:Vawctb.hits sh s.at_.cache x with
       |true =>
        rw[q]at this
        exact absurd rfl this
       |false=>rfl
      |false =>
       refine h1 (List.all_eq_true.mpr λs hs=>List.all_eq_true.mpr λx hx=>?_)
       have:=e2 s hs x hx
       cases q:Vawctb.hits sh s.at_.cache x with
       |false =>
        rw[q]at this
        exact absurd rfl this
       |true=>rfl
theorem Mg {sh:Vawctb.Shape}{g:Graph}{l:List Vawctb.Seen}(h:SGood sh g l)(hl:l.length<=400){v:Nat}{hit:Bool}{wy:Vawctb.Way}(e:wayWhere sh g l v hit=some wy):wy.length<=400:=by
 rw[Qk]at e
 obtain⟨s,hs,e2⟩:=List.exists_of_findSome?_eq_some e
 obtain⟨i,hi⟩:=mem_iff_getElem?.mp hs
 obtain⟨_,_,_,hw⟩:=Rl h hl hi
 unfold Z8j at e2
 obtain⟨x,_,rfl⟩:=Option.map_eq_some_iff.mp e2
 rw[length_append,length_singleton]
 omega
noncomputable section
variable {P:Program}{w:World}{K:W.Frag}{mg:Str->Option Value}{base:Heap}{C CB CG CM CR CH CP CS f:Addr}{fd:FuncData}
theorem Z2p:FnScope ["held","numbers","node","moments","own","told","moment"] ["held","numbers"] (Zf Ux):=#[5]
theorem Zi1 {sh:Vawctb.Shape}(h0:ShOk sh)(l:List Vawctb.Seen)(h:∀s∈l,CaOk sh s.at_.cache):(l.flatMap λm=>cacheRow m.at_.cache).length<=l.length*20:=Oh _ 20 l λs hs=>Sk (h s hs) h0
theorem Z2q (F:Fun K "states_call" "states_call" Ux f fd)(B:Blt mg)(T:THeld K CH)(TM:TMoment K CM)(kH:#[47])(kM:#[42])(kA:#[45])(kS:#[63])(L3:Cst mg "NOT_THERE" (-3))(L2c:Cst mg "TOO_MANY" 2) :
  FnOk P w K mg base CX0 8 f fd ["held","numbers"] (spC CH C CG (some 1) (mk1 .states)):=by
 obtain⟨u2,m2,r2⟩:=L2c
 obtain⟨u3,m3,r3⟩:=L3
 exists 0,Z2p
 ·obtain⟨p,l,s,ns,rfl,hH,ok,hl,hz,hn,k⟩:=h
  have hr1:Room 1 _:=hr.mono (by decide)
  refine⟨_,Zb (#[0,2,Yp Zy (pv 1) Zn (λ_ _=>rfl)])
   (Zb (Yh (Wh (Xf (Zs kH hr1 (Za (Zh (pv 0) rfl) (Za (pv 2) Zc))))) (Zd (Zj (Zv (Za (Zt rfl m3 r3) Zc)))) Zr)
   (Zb (#[0,3,Zs kM hr (Za (pv 0) (Za Yb Zc))])
   (Zb (Yh (Zo Xp (pv 3) Yb rfl) (Zd (Zj (Zv (Za (Zt rfl m2 r2) Zc)))) Zr)
   (Zb (#[0,4,Zs kA hr1 (Za (pv 3) (Za (pv 2) Zc))])
   (Zb (#[0,5,Zv (Za Zn (Za (#[6,Za (pv 4) Zc]) Zc))])
   (Zb (Yy PassesOwn.never rfl (Yc (pv 4)) (#[1,6])
    (Zd (Xd (#[4,pv 5,Za (Zs kS hr1 (Za (Zh (pv 6) rfl) Zc)) Zc]))))
   (Zd (Zj (pv 5))))))))),?_⟩
  match ns,hn 1 rfl,hl,k with
  |[x],_,hl,k =>
   have i0:atI ([x].map V.int) 0=some (V.int x):=Ya (j:=0) rfl
   have hstep:Vawctb.step s (mk1 .states [x])=(s,if inRange x 0 ((s.graph.nodes.length:Int)-1)=true then(match Vawctb.moments s.shape s.graph none (firstCache s) with
    |none=>[2]
    |some l=>0::toInts ((momentsAt l x.toNat).length::(momentsAt l x.toNat).flatMap λm=>cacheRow m.at_.cache)) else [-3]):=rfl
   rw[hstep]at k
   obtain⟨dx,fs,pc,lw,pg,h1,h2,h3,h4,h5⟩:=id hH
   refine⟨_,rfl,l,_,_,_,rfl,rfl,SqL.of hl,i0,?_⟩
   refine⟨_,rfl,p,CH,dx,fs,_,rfl,h1,T.cl,T.graph,h2.graph,_,rfl,pg,s.graph,x,rfl,h5,_,rfl,?_⟩
   rcases No (x:=x) (n:=s.graph.nodes.length) with e | ⟨v,rfl,hv,e⟩
   ·rw[e]at k ⊢
    exact iteT (Yt (xs:=[-3]) (by show 1<=100;decide) λH3 t s3 f3=>k H3 t (But.of s3) (hH.same s3) f3)
   rw[e]at k ⊢
   rw[if_pos rfl,Int.toNat_natCast]at k
   refine iteF ⟨_,rfl,p,s,none,rfl,hH,ok,λH1 mv s1 m1=>?_⟩
   have hok:=λl (e:Vawctb.moments s.shape s.graph none (firstCache s)=some l)=>Wv ok.shape.pos ok.graph (Yg ok) e
   generalize Vawctb.moments s.shape s.graph none (firstCache s)=o at m1 k hok
   refine⟨_,rfl,rfl,_,rfl,?_⟩
   show if decide (mv=V.non)=true then _ else _
   rw[Oi m1]
   cases o with
   |none=>exact iteT (Yt (xs:=[2]) (by show 1<=100;decide) λH3 t s3 f3=>k H3 t (But.of (s1.trans s3)) (hH.same (s1.trans s3)) f3)
   |some ls =>
    obtain⟨hA,_⟩:=hok ls rfl
    obtain⟨t,rfl,m1⟩:=m1
    refine iteF ⟨_,rfl,_,rfl,t,ls,v,rfl,m1,hA.few,λH2 u s2 m2'=>?_⟩
    have hml:=Xv ls v
    have hfew:=hA.few
    have hca:=Sd hA.good v
    dsimp only at k
    generalize momentsAt ls v=lv at m2' hml hca k
    obtain⟨as,a1,a2,a3⟩:=id m2'
    refine⟨_,rfl,u,_,rfl,.inl (SqL.of a1),(by show 2<=sizeLine;decide),λm hm=>?_⟩
    obtain⟨s3,f3⟩:=newE hm (.lst [.int 0,.int (((as.map V.ref).length:Nat):Int)])
    generalize upd H2 m _=H3 at s3 f3 ⊢
    rw[length_map,a2]at f3
    refine⟨_,rfl,u,rfl,⟨_,SqL.of (s3 _ _ a1)⟩,Xk (K:=K) (a:=u) (xs:=as.map V.ref) (λi σ H'=>∃(v6:Option V),σ=[some (.ref p),some (.ref l),some (.int (v:Int)),some (.ref t),some (.ref u),some (.ref m),v6]/\Same H2 H'/\H' m=some (.lst (Zl (0::lv.length::(lv.take i).flatMap λm=>cacheRow m.at_.cache))))
     ⟨none,rfl,s3,f3⟩ (λi σ H' _ ⟨_,_,s4,_⟩=>SqL.of (s4 _ _ a1)) ?_ ?_⟩
    ·rintro i y σ H4 hi ⟨v6,rfl,s4,f4⟩
     obtain⟨a,ha,rfl⟩:=Yw hi
     obtain⟨z,hzi⟩:∃z,lv[i]?=some z:=⟨_,getElem?_eq_getElem (by have:=(gse.mp ha).1;omega)⟩
     obtain⟨dm,fm,qm,bm,lm,g1,g2,g3⟩:=((a3 i a z ha hzi).same s4).fields
     have hcz:=Sk (hca z (mem_of_getElem? hzi)) ok.shape
     refine⟨_,rfl,.inl ⟨rfl,_,SqL.of f4⟩,_,rfl,a,CM,dm,fm,_,rfl,g1,TM.cl,TM.state,g2.state,qm,_,rfl,g3,by omega,λH5 tt s5 ntt f5=>?_⟩
     have hr20:=Zi1 ok.shape (lv.take i) λs hs=>hca s (List.mem_of_mem_take hs)
     rw[length_take]at hr20
     have h40:min i lv.length*20<=400*20:=Nat.mul_le_mul_right _ (by omega)
     refine⟨m,tt,_,_,rfl,rfl,s5 _ _ f4,f5,Nat.le_of_lt (Zg (by rw[Zi,Zi,length_cons,length_cons];omega)),_,rfl,(chg (s4.trans s5) hm).1,?_⟩
     rw[Ze,Zw hzi,List.flatMap_append,<-List.cons_append,<-List.cons_append,Zu,List.flatMap_cons,List.flatMap_nil,append_nil]
    ·rintro σ H4 ⟨v6,rfl,s4,f4⟩
     rw[length_map,a2,take_length]at f4
     have s04:=(s1.trans s2).trans s4
     refine⟨_,rfl,k H4 m (But.of s04) (hH.same s04) ?_⟩
     rw[f4]
     show _=some (HO.lst (V.int 0::(toInts _).map V.int))
     rw[Wf]
     rfl
noncomputable def spTd (K:W.Frag):Sp:=λvs H Q _=>∃(t:Addr) (wy:Vawctb.Way),vs=[.ref t]/\WayAt H t wy/\wy.length<=400/\∀(H':Hp) (u:Addr),Same H H'->H' u=some (.lst (Zl (wayRow wy)))->Q (.ref u) H'
theorem Zav:FnScope ["way","told","node","line"] ["way"] (Zf Nk):=#[5]
theorem Z9e {α β:Type}{R:α->β->Prop}:∀{l:List α} {m:List β} {i:Nat} {a:α},Paired R l m->l[i]?=some a->∃b,m[i]?=some b/\R a b
 |_,_,_,_,.nil,e=>by simp at e
 |_,_,0,_,.cons h _,e=>by cases e;exact⟨_,rfl,h⟩
 |_,_,i+1,_,.cons _ t,e=>Z9e (i:=i) t e
theorem Zaw (F:Fun K "way_told" "way_told" Nk f fd)(B:Blt mg):FnOk P w K mg base CX0 1 f fd ["way"] (spTd K):=by
 exists 0,Zav
 ·obtain⟨t,wy,rfl,⟨as,a1,a2⟩,hz,k⟩:=h
  refine⟨_,Zb (#[0,1,Zv (Za (#[6,Za (pv 0) Zc]) Zc)])
   (Zb (Yy PassesOwn.never rfl (Yc (pv 0)) (Te rfl (Yf (#[1,2]) (Yf (#[1,3]) Ww)))
    (Zb (Xd (#[3,pv 1,Za (pv 2) Zc]))
    (Zd (Xd (#[3,pv 1,Za (Wg (Zo Xp (pv 3) Yb rfl) Zn (Ym Xe (pv 3) Zn)) Zc])))))
   (Zd (Zj (pv 1)))),?_⟩
  have hlen:=Paired.length a2
  refine⟨_,rfl,t,_,rfl,.inl (SqL.of a1),(by show 1<=sizeLine;decide),λm hm=>?_⟩
  obtain⟨s1,f1⟩:=newE hm (.lst [.int (((as.map V.ref).length:Nat):Int)])
  generalize upd H m _=H1 at s1 f1 ⊢
  rw[length_map,hlen]at f1
  refine⟨_,rfl,t,rfl,⟨_,SqL.of (s1 _ _ a1)⟩,Xk (K:=K) (a:=t) (xs:=as.map V.ref) (λi σ H'=>∃(v2 v3:Option V),σ=[some (.ref t),some (.ref m),v2,v3]/\Same H H'/\H' m=some (.lst (Zl (wy.length::(wy.take i).flatMap λz=>[z.1,z.2]))))
   ⟨none,none,rfl,s1,f1⟩ (λi σ H' _ ⟨_,_,_,s2,_⟩=>SqL.of (s2 _ _ a1)) ?_ ?_⟩
  ·rintro i y σ H2 hi ⟨v2,v3,rfl,s2,f2⟩
   obtain⟨a,ha,rfl⟩:=Yw hi
   obtain⟨z,hzi,x,hzx,hza⟩:=Z9e a2 ha
   have hwl:=Np (wy.take i)
   rw[length_take]at hwl
   refine⟨a,_,rfl,SqT.of (s2 _ _ hza),rfl,_,_,rfl,_,_,rfl,rfl,_,rfl,.inl ⟨rfl,_,SqL.of f2⟩,_,rfl,m,_,_,rfl,rfl,f2,Zg (by rw[Zi,length_cons];omega),?_⟩
   have s3:=(chg (o:=.lst (Zl (wy.length::(wy.take i).flatMap λz=>[z.1,z.2])++[V.int (z.1:Int)])) s2 hm).1
   have f3:upd H2 m (.lst (Zl (wy.length::(wy.take i).flatMap λz=>[z.1,z.2])++[V.int (z.1:Int)])) m=some (.lst (Zl ((wy.length::(wy.take i).flatMap λz=>[z.1,z.2])++[z.1]))):=by
    rw[Ze,Zu]
    rfl
   generalize upd H2 m _=H3 at s3 f3 ⊢
   refine⟨_,rfl,.inl ⟨rfl,_,SqL.of f3⟩,_,rfl,rfl,_,rfl,?_⟩
   refine Zc3 (λv H4=>v=.int (z.2:Int)/\H4=H3) (λq R hR=>?_) (λq R hR=>?_) ?_
   ·change decide (optV x=V.non)=true at q
    rw[Oa]at q
    cases x with
    |none=>exact hR _ _ ⟨by rw[hzx];rfl,rfl⟩
    |some n=>cases q
   ·change decide (optV x=V.non)=false at q
    rw[Oa]at q
    cases x with
    |none=>cases q
    |some n=>exact⟨_,rfl,_,_,rfl,rfl,hR _ _ ⟨by rw[hzx];rfl,rfl⟩⟩
   ·rintro v H4 ⟨rfl,rfl⟩
    refine⟨m,_,_,rfl,rfl,f3,Zg (by rw[Zi,length_append,length_cons,length_singleton];omega),_,_,rfl,(chg s3 hm).1,?_⟩
    rw[Ze,Zw hzi,Zau,<-List.cons_append]
    rw[show([z.1,z.2]:List Nat)=[z.1]++[z.2] from rfl,<-append_assoc,Zu _ [z.2]]
    rfl
  ·rintro σ H2 ⟨v2,v3,rfl,s2,f2⟩
   rw[length_map,hlen,take_length]at f2
   exact⟨_,rfl,k H2 m s2 f2⟩
end
noncomputable section
variable {P:Program}{w:World}{K:W.Frag}{mg:Str->Option Value}{base:Heap}{C CB CG CM CR CH CP CS f:Addr}{fd:FuncData}
theorem Z9f:FnScope ["held","numbers","node","moments","hit","miss"] ["held","numbers"] (Zf Qr):=#[5]
theorem Z9g (F:Fun K "show_call" "show_call" Qr f fd)(T:THeld K CH)(kH:#[47])(kM:#[42])(kN:#[94])(kW:#[95])(kT:#[96])
  (L3:Cst mg "NOT_THERE" (-3)) (L2c:Cst mg "TOO_MANY" 2) (L1:Cst mg "NOT_NEITHER" 1):FnOk P w K mg base CX0 8 f fd ["held","numbers"] (spC CH C CG (some 1) (mk1 .show_)):=by
 obtain⟨u2,m2,r2⟩:=L2c
 obtain⟨u3,m3,r3⟩:=L3
 obtain⟨u1,m1,r1⟩:=L1
 exists 0,Z9f
 ·obtain⟨p,l,s,ns,rfl,hH,ok,hl,hz,hn,k⟩:=h
  have hr1:Room 1 _:=hr.mono (by decide)
  have hr2:Room 2 _:=hr.mono (by decide)
  refine⟨_,Zb (#[0,2,Yp Zy (pv 1) Zn (λ_ _=>rfl)])
   (Zb (Yh (Wh (Xf (Zs kH hr1 (Za (Zh (pv 0) rfl) (Za (pv 2) Zc))))) (Zd (Zj (Zv (Za (Zt rfl m3 r3) Zc)))) Zr)
   (Zb (#[0,3,Zs kM hr (Za (pv 0) (Za Yb Zc))])
   (Zb (Yh (Zo Xp (pv 3) Yb rfl) (Zd (Zj (Zv (Za (Zt rfl m2 r2) Zc)))) Zr)
   (Zb (Yh (Wh (Xf (Zs kN #[2] (Za (Zh (pv 0) rfl) (Za (Zh (pv 0) rfl) (Za (pv 3) (Za (pv 2) Zc))))))) (Zd (Zj (Zv (Za (Zt rfl m1 r1) Zc)))) Zr)
   (Zb (#[0,4,Zs kW hr2 (Za (Zh (pv 0) rfl) (Za (Zh (pv 0) rfl) (Za (pv 3) (Za (pv 2) (Za Zcb Zc)))))])
   (Zb (#[0,5,Zs kW hr2 (Za (Zh (pv 0) rfl) (Za (Zh (pv 0) rfl) (Za (pv 3) (Za (pv 2) (Za Zcb Zc)))))])
   (Zd (Zj (Ym Pe (Ym Pe (Zv (Za Zn Zc)) (Zs kT hr1 (Za (pv 4) Zc))) (Zs kT hr1 (Za (pv 5) Zc))))))))))),?_⟩
  match ns,hn 1 rfl,hl,k with
  |[x],_,hl,k =>
   have i0:atI ([x].map V.int) 0=some (V.int x):=Ya (j:=0) rfl
   have hstep:Vawctb.step s (mk1 .show_ [x])=(s,if inRange x 0 ((s.graph.nodes.length:Int)-1)=true then(match Vawctb.moments s.shape s.graph none (firstCache s) with
    |none=>[2]
    |some l=>if classOf s.shape s.graph l x.toNat≠3 then [1] else match wayWhere s.shape s.graph l x.toNat true,wayWhere s.shape s.graph l x.toNat false with
     |some a,some b=>0::toInts (wayRow a++wayRow b)
     |_,_=>[1]) else [-3]):=rfl
   rw[hstep]at k
   obtain⟨dx,fs,pc,lw,pg,h1,h2,h3,h4,h5⟩:=id hH
   refine⟨_,rfl,l,_,_,_,rfl,rfl,SqL.of hl,i0,?_⟩
   refine⟨_,rfl,p,CH,dx,fs,_,rfl,h1,T.cl,T.graph,h2.graph,_,rfl,pg,s.graph,x,rfl,h5,_,rfl,?_⟩
   rcases No (x:=x) (n:=s.graph.nodes.length) with e | ⟨v,rfl,hv,e⟩
   ·rw[e]at k ⊢
    exact iteT (Yt (xs:=[-3]) (by show 1<=100;decide) λH3 t s3 f3=>k H3 t (But.of s3) (hH.same s3) f3)
   rw[e]at k ⊢
   rw[if_pos rfl,Int.toNat_natCast]at k
   refine iteF ⟨_,rfl,p,s,none,rfl,hH,ok,λH1 mv s1 m1'=>?_⟩
   have hok:=λl (e:Vawctb.moments s.shape s.graph none (firstCache s)=some l)=>Wv ok.shape.pos ok.graph (Yg ok) e
   generalize Vawctb.moments s.shape s.graph none (firstCache s)=o at m1' k hok
   refine⟨_,rfl,rfl,_,rfl,?_⟩
   show if decide (mv=V.non)=true then _ else _
   rw[Oi m1']
   cases o with
   |none=>exact iteT (Yt (xs:=[2]) (by show 1<=100;decide) λH3 t s3 f3=>k H3 t (But.of (s1.trans s3)) (hH.same (s1.trans s3)) f3)
   |some ls =>
    obtain⟨hA,_⟩:=hok ls rfl
    obtain⟨t,rfl,m1'⟩:=m1'
    dsimp only at k
    refine iteF ⟨_,rfl,p,CH,dx,fs,_,rfl,s1 _ _ h1,T.cl,T.cache,h2.cache,_,rfl,p,CH,dx,fs,_,rfl,s1 _ _ h1,T.cl,T.graph,h2.graph,_,rfl,_,rfl,pc,pg,t,s.shape,s.graph,ls,v,rfl,h3.same s1,ok.shape,h5.same s1,ok.graph,m1',hA.good,hA.few,hv,λH2 s2=>⟨_,rfl,?_⟩⟩
    have s02:=s1.trans s2
    by_cases c3:classOf s.shape s.graph ls v=3
    case neg =>
     rw[if_pos c3]at k
     rw[decide_eq_false c3]
     exact iteT (Yt (xs:=[1]) (by show 1<=100;decide) λH3 t s3 f3=>k H3 t (But.of (s02.trans s3)) (hH.same (s02.trans s3)) f3)
    rw[if_neg (λq=>q c3)]at k
    rw[decide_eq_true c3]
    obtain⟨wa,ea⟩:=Ziy c3 true
    obtain⟨wb,eb⟩:=Ziy c3 false
    have la:=Mg hA.good hA.few ea
    have lb:=Mg hA.good hA.few eb
    rw[ea,eb]at k
    dsimp only at k
    refine iteF ⟨_,rfl,p,CH,dx,fs,_,rfl,s02 _ _ h1,T.cl,T.cache,h2.cache,_,rfl,p,CH,dx,fs,_,rfl,s02 _ _ h1,T.cl,T.graph,h2.graph,_,rfl,_,rfl,pc,pg,t,s.shape,s.graph,ls,v,true,rfl,h3.same s02,ok.shape,h5.same s02,ok.graph,m1'.same s2,hA.good,hA.few,hv,λH3 ra s3 wA=>?_⟩
    rw[ea]at wA
    obtain⟨ta,rfl,wA⟩:=wA
    have s03:=s02.trans s3
    refine⟨_,rfl,p,CH,dx,fs,_,rfl,s03 _ _ h1,T.cl,T.cache,h2.cache,_,rfl,p,CH,dx,fs,_,rfl,s03 _ _ h1,T.cl,T.graph,h2.graph,_,rfl,_,rfl,pc,pg,t,s.shape,s.graph,ls,v,false,rfl,h3.same s03,ok.shape,h5.same s03,ok.graph,(m1'.same s2).same s3,hA.good,hA.few,hv,λH4 rb s4 wB=>?_⟩
    rw[eb]at wB
    obtain⟨tb,rfl,wB⟩:=wB
    have s04:=s03.trans s4
    have ra:(wayRow wa).length<=801:=by
     unfold wayRow
     rw[length_cons,Np]
     omega
    have rb:(wayRow wb).length<=801:=by
     unfold wayRow
     rw[length_cons,Np]
     omega
    refine⟨(by show 1<=sizeLine;decide),λt5 ht5=>?_⟩
    obtain⟨s5,f5⟩:=newE ht5 (.lst (Zl [0]))
    change Same H4 (upd H4 t5 (.lst [.int 0])) at s5
    change upd H4 t5 (.lst [.int 0]) t5=_ at f5
    generalize upd H4 t5 _=H5 at s5 f5 ⊢
    refine⟨_,rfl,ta,wa,rfl,(wA.same s4).same s5,la,λH6 t6 s6 f6=>?_⟩
    refine⟨t5,t6,_,_,rfl,rfl,s6 _ _ f5,f6,Nat.le_of_lt (Zg (by rw[Zi,Zi];show 1+_<=_;omega)),λt7 ht7=>?_⟩
    rw[<-Zu]
    obtain⟨s7,f7⟩:=newE ht7 (.lst (Zl ([0]++wayRow wa)))
    generalize upd H6 t7 _=H7 at s7 f7 ⊢
    refine⟨_,rfl,tb,wb,rfl,((wB.same s5).same s6).same s7,lb,λH8 t8 s8 f8=>?_⟩
    refine⟨t7,t8,_,_,rfl,rfl,s8 _ _ f7,f8,Nat.le_of_lt (Zg (by rw[Zi,Zi,length_append];show 1+_+_<=_;omega)),λt9 ht9=>?_⟩
    rw[<-Zu]
    have s08:=(((s04.trans s5).trans s6).trans s7).trans s8
    refine k _ t9 (But.of (s08.trans (Zq ht9))) (hH.same (s08.trans (Zq ht9))) ?_
    rw[Ze]
    show _=some (HO.lst (V.int 0::(toInts (wayRow wa++wayRow wb)).map V.int))
    rw[Wf,append_assoc]
    rfl
theorem Z6d:FnScope ["held","numbers","node","moments"] ["held","numbers"] (Zf Sg):=#[5]
theorem Z6e (F:Fun K "first_call" "first_call" Sg f fd)(T:THeld K CH)(kH:#[47])(kM:#[42])(kA:#[97])
  (L3:Cst mg "NOT_THERE" (-3)) (L2c:Cst mg "TOO_MANY" 2):FnOk P w K mg base CX0 8 f fd ["held","numbers"] (spC CH C CG (some 1) (mk1 .first)):=by
 obtain⟨u2,m2,r2⟩:=L2c
 obtain⟨u3,m3,r3⟩:=L3
 exists 0,Z6d
 ·obtain⟨p,l,s,ns,rfl,hH,ok,hl,hz,hn,k⟩:=h
  have hr1:Room 1 _:=hr.mono (by decide)
  refine⟨_,Zb (#[0,2,Yp Zy (pv 1) Zn (λ_ _=>rfl)])
   (Zb (Yh (Wh (Xf (Zs kH hr1 (Za (Zh (pv 0) rfl) (Za (pv 2) Zc))))) (Zd (Zj (Zv (Za (Zt rfl m3 r3) Zc)))) Zr)
   (Zb (#[0,3,Zs kM hr (Za (pv 0) (Za (pv 2) Zc))])
   (Zb (Yh (Zo Xp (pv 3) Yb rfl) (Zd (Zj (Zv (Za (Zt rfl m2 r2) Zc)))) Zr)
   (Zd (Zj (Zv (Za (Wg (Xf (Zs kA #[2] (Za (Zh (pv 0) rfl) (Za (Zh (pv 0) rfl) (Za (pv 3) (Za (pv 2) Zc)))))) Zn Zn) Zc))))))),?_⟩
  match ns,hn 1 rfl,hl,k with
  |[x],_,hl,k =>
   have i0:atI ([x].map V.int) 0=some (V.int x):=Ya (j:=0) rfl
   have hstep:Vawctb.step s (mk1 .first [x])=(s,if inRange x 0 ((s.graph.nodes.length:Int)-1)=true then(match Vawctb.moments s.shape s.graph none (firstCache s) with
    |none=>[2]
    |some _=>match Vawctb.moments s.shape s.graph (some x.toNat) (firstCache s) with
     |none=>[2]
     |some l=>[if firstAlone s.shape s.graph l x.toNat then(1:Int) else 0]) else [-3]):=rfl
   rw[hstep]at k
   obtain⟨dx,fs,pc,lw,pg,h1,h2,h3,h4,h5⟩:=id hH
   refine⟨_,rfl,l,_,_,_,rfl,rfl,SqL.of hl,i0,?_⟩
   refine⟨_,rfl,p,CH,dx,fs,_,rfl,h1,T.cl,T.graph,h2.graph,_,rfl,pg,s.graph,x,rfl,h5,_,rfl,?_⟩
   rcases No (x:=x) (n:=s.graph.nodes.length) with e | ⟨v,rfl,hv,e⟩
   ·rw[e]at k ⊢
    exact iteT (Yt (xs:=[-3]) (by show 1<=100;decide) λH3 t s3 f3=>k H3 t (But.of s3) (hH.same s3) f3)
   rw[e]at k ⊢
   rw[if_pos rfl,Int.toNat_natCast]at k
   refine iteF ⟨_,rfl,_,rfl,p,s,some v,rfl,hH,ok,λH1 mv s1 m1'=>?_⟩
   have hok:=λl (e:Vawctb.moments s.shape s.graph (some v) (firstCache s)=some l)=>Wv ok.shape.pos ok.graph (Yg ok) e
   have hfs:=λl (e:Vawctb.moments s.shape s.graph (some v) (firstCache s)=some l)=>Zdc ok.shape.pos ok.graph (Yg ok) e
   generalize Vawctb.moments s.shape s.graph (some v) (firstCache s)=o at m1' k hok hfs
   refine⟨_,rfl,rfl,_,rfl,?_⟩
   show if decide (mv=V.non)=true then _ else _
   rw[Oi m1']
   cases o with
   |none =>
    have ek:(match Vawctb.moments s.shape s.graph none (firstCache s) with
     |none=>[2]
     |some _=>[2]:List Int)=[2]:=by split <;> rfl
    dsimp only at k
    rw[ek]at k
    exact iteT (Yt (xs:=[2]) (by show 1<=100;decide) λH3 t s3 f3=>k H3 t (But.of (s1.trans s3)) (hH.same (s1.trans s3)) f3)
   |some ls =>
    obtain⟨hA,_⟩:=hok ls rfl
    obtain⟨l0,e0⟩:=hfs ls rfl
    rw[e0]at k
    dsimp only at k
    obtain⟨t,rfl,m1'⟩:=m1'
    refine iteF ⟨_,rfl,p,CH,dx,fs,_,rfl,s1 _ _ h1,T.cl,T.cache,h2.cache,_,rfl,p,CH,dx,fs,_,rfl,s1 _ _ h1,T.cl,T.graph,h2.graph,_,rfl,_,rfl,pc,pg,t,s.shape,s.graph,ls,v,rfl,h3.same s1,ok.shape,h5.same s1,ok.graph,m1',hA.good,hA.few,hv,λH2 s2=>⟨_,rfl,?_⟩⟩
    have s02:=s1.trans s2
    cases q:firstAlone s.shape s.graph ls v with
    |true =>
     rw[q,if_pos rfl]at k
     exact iteF (Yt (xs:=[1]) (by show 1<=100;decide) λH3 t s3 f3=>k H3 t (But.of (s02.trans s3)) (hH.same (s02.trans s3)) f3)
    |false =>
     rw[q,if_neg Bool.false_ne_true]at k
     exact iteT (Yt (xs:=[0]) (by show 1<=100;decide) λH3 t s3 f3=>k H3 t (But.of (s02.trans s3)) (hH.same (s02.trans s3)) f3)
theorem Z9h:FnScope ["held","numbers","nodes","moments"] ["held","numbers"] (Zf Qs):=#[5]
theorem Z9i (F:Fun K "most_call" "most_call" Qs f fd)(T:THeld K CH)(kM:#[42])(kX:#[98])
  (L7:Cst mg "OUT_OF_RANGE" (-7)) (L2c:Cst mg "TOO_MANY" 2) (L40:Cst mg "MOST_NODES_OF_A_WAY" 40):FnOk P w K mg base CX0 8 f fd ["held","numbers"] (spC CH C CG (some 1) (mk1 .most)):=by
 obtain⟨u2,m2,r2⟩:=L2c
 obtain⟨u7,m7,r7⟩:=L7
 obtain⟨u40,m40,r40⟩:=L40
 exists 0,Z9h
 ·obtain⟨p,l,s,ns,rfl,hH,ok,hl,hz,hn,k⟩:=h
  refine⟨_,Zb (#[0,2,Yp Zy (pv 1) Zn (λ_ _=>rfl)])
   (Zb (Yh (Wh (Jf Ol Ol Zn (pv 2) (Zt rfl m40 r40))) (Zd (Zj (Zv (Za (Zt rfl m7 r7) Zc)))) Zr)
   (Zb (#[0,3,Zs kM hr (Za (pv 0) (Za Yb Zc))])
   (Zb (Yh (Zo Xp (pv 3) Yb rfl) (Zd (Zj (Zv (Za (Zt rfl m2 r2) Zc)))) Zr)
   (Zd (Zj (Zv (Za Zn (Za (Zs kX hr (Za (Zh (pv 0) rfl) (Za (Zh (pv 0) rfl) (Za (pv 3) (Za (pv 2) Zc))))) Zc)))))))),?_⟩
  match ns,hn 1 rfl,hl,k with
  |[x],_,hl,k =>
   have i0:atI ([x].map V.int) 0=some (V.int x):=Ya (j:=0) rfl
   have hstep:Vawctb.step s (mk1 .most [x])=(s,if inRange x 1 40=true then(match Vawctb.moments s.shape s.graph none (firstCache s) with
    |none=>[2]
    |some _=>0::toInts [Vawctb.mostIn s.shape s.graph x.toNat [({node:=0,stood:=false,cache:=firstCache s},0)]]) else [-7]):=rfl
   rw[hstep]at k
   obtain⟨dx,fs,pc,lw,pg,h1,h2,h3,h4,h5⟩:=id hH
   refine⟨_,rfl,l,_,_,_,rfl,rfl,SqL.of hl,i0,?_⟩
   dsimp only[Z3t,tSeq,tIfS,tNot,Zgy]
   refine Ve (p1:=λi j=>decide (i<=j)) (p2:=λi j=>decide (i<=j)) 1 x 40 (λR h=>h) (λR h=>⟨_,rfl,h⟩) (λR h=>h) ⟨_,rfl,?_⟩
   have eb:(decide (1<=x)&&decide (x<=40))=inRange x 1 40:=rfl
   show if(!(decide (1<=x)&&decide (x<=40)))=true then _ else _
   rw[eb]
   cases e:inRange x 1 40 with
   |false =>
    rw[e,if_neg Bool.false_ne_true]at k
    exact iteT (Yt (xs:=[-7]) (by show 1<=100;decide) λH3 t s3 f3=>k H3 t (But.of s3) (hH.same s3) f3)
   |true =>
    rw[e,if_pos rfl]at k
    rw[<-eb,Bool.and_eq_true,decide_eq_true_eq,decide_eq_true_eq]at e
    obtain⟨n,rfl⟩:∃n:Nat,x=((n+1:Nat):Int):=⟨(x-1).toNat,by omega⟩
    rw[Int.toNat_natCast,Zal]at k
    refine iteF ⟨_,rfl,p,s,none,rfl,hH,ok,λH1 mv s1 m1'=>?_⟩
    have hok:=λl (e:Vawctb.moments s.shape s.graph none (firstCache s)=some l)=>Wv ok.shape.pos ok.graph (Yg ok) e
    generalize Vawctb.moments s.shape s.graph none (firstCache s)=o at m1' k hok
    refine⟨_,rfl,rfl,_,rfl,?_⟩
    show if decide (mv=V.non)=true then _ else _
    rw[Oi m1']
    cases o with
    |none=>exact iteT (Yt (xs:=[2]) (by show 1<=100;decide) λH3 t s3 f3=>k H3 t (But.of (s1.trans s3)) (hH.same (s1.trans s3)) f3)
    |some ls =>
     obtain⟨hA,m',hm'⟩:=hok ls rfl
     obtain⟨t,rfl,m1'⟩:=m1'
     dsimp only at k
     refine iteF ⟨_,rfl,p,CH,dx,fs,_,rfl,s1 _ _ h1,T.cl,T.cache,h2.cache,_,rfl,p,CH,dx,fs,_,rfl,s1 _ _ h1,T.cl,T.graph,h2.graph,_,rfl,_,rfl,pc,pg,t,s.shape,s.graph,ls,m',_,n+1,rfl,h3.same s1,ok.shape,h5.same s1,ok.graph,m1',hA,hm',by omega,λH2 s2=>⟨(by show 2<=sizeLine;decide),λt3 ht3=>?_⟩⟩
     have s02:=s1.trans s2
     refine k _ t3 (But.of (s02.trans (Zq ht3))) (hH.same (s02.trans (Zq ht3))) ?_
     rw[Ze]
     rfl
end
end Sl
namespace Sl
open Vawctb
theorem Zdl:StOk Vawctb.start:=⟨⟨.inl rfl,⟨by decide,by decide⟩,λy hy=>(nomatch hy),nodup_nil,Nat.zero_le _⟩,⟨Nat.le_refl 1,by decide,λl hl=>(by
 have:l=[]:=by simpa [Vawctb.start] using hl
 subst this
 exact⟨Nat.zero_le _,λx hx=>(nomatch hx)⟩),λe he=>(nomatch he),Nat.zero_le _⟩,λx hx=>(nomatch hx),Nat.zero_le _⟩
theorem Zmc {l:List Nat}(h:l.Nodup)(hl:∀y∈l,y<32):l.length<=32:=by
 have:=Z5l l (List.range 32) h λx hx=>List.mem_range.mpr (hl x hx)
 rwa [length_range]at this
theorem Zgq {s:State}(h:StOk s)(c:Call):StOk (step s c).1:=by
 cases c with
 |cache k w r =>
  show StOk (if([1,2,4].contains k&&inRange w 1 WAYS&&inRange r 0 1)=true then _ else _:State×Answer).1
  split
  ·rename_i q
   rw[Bool.and_eq_true,Bool.and_eq_true]at q
   obtain⟨⟨q1,q2⟩,_⟩:=q
   have q1':k=1\/k=2\/k=4:=by simpa using q1
   have q2':(decide (1<=w)&&decide (w<=4))=true:=q2
   rw[Bool.and_eq_true,decide_eq_true_eq,decide_eq_true_eq]at q2'
   exact⟨⟨by rcases q1' with e | e | e <;> subst e <;> simp,⟨by show 1<=w.toNat;omega,by show w.toNat<=4;omega⟩,λy hy=>(nomatch hy),nodup_nil,Nat.zero_le _⟩,h.graph,λx hx=>(nomatch hx),Nat.zero_le _⟩
  ·exact h
 |lock x =>
  show StOk (if(!isLine x||isLocked s.shape x.toNat)=true then _ else _:State×Answer).1
  split
  ·exact h
  ·rename_i q
   split
   ·exact h
   ·have q1:isLine x=true:=by
     cases e:isLine x with
     |true=>rfl
     |false =>
      rw[e]at q
      exact absurd rfl q
    have q2:isLocked s.shape x.toNat=false:=by
     cases e:isLocked s.shape x.toNat with
     |false=>rfl
     |true =>
      rw[e,Bool.or_true]at q
      exact absurd rfl q
    have q1':=(Xr x).mp q1
    have hlt:∀y∈s.shape.locked++[x.toNat],y<32:=λy hy=>by
     rcases mem_append.mp hy with hy | hy
     ·exact h.shape.lt y hy
     ·rw[mem_singleton.mp hy]
      omega
    have hnd:(s.shape.locked++[x.toNat]).Nodup:=by
     rw[List.nodup_append]
     refine⟨h.shape.nd,nodup_cons.mpr ⟨not_mem_nil,nodup_nil⟩,λa ha b hb q=>?_⟩
     rw[mem_singleton.mp hb]at q
     subst q
     have:isLocked s.shape x.toNat=true:=by
      unfold isLocked
      exact List.contains_iff_mem.mpr ha
     rw[q2]at this
     cases this
    exact⟨⟨h.shape.sets,h.shape.ways,hlt,hnd,Zmc hnd hlt⟩,h.graph,h.warm,h.len⟩
 |unlock x =>
  show StOk (if(!isLine x||!isLocked s.shape x.toNat)=true then _ else _:State×Answer).1
  split
  ·exact h
  ·exact⟨⟨h.shape.sets,h.shape.ways,λy hy=>h.shape.lt y (List.mem_filter.mp hy).1,h.shape.nd.filter _,Nat.le_trans (List.length_filter_le _ _) h.shape.len⟩,h.graph,h.warm,h.len⟩
 |warm l =>
  show StOk (if(!l.all isLine)=true then _ else _:State×Answer).1
  split
  ·exact h
  ·rename_i q
   split
   ·exact h
   ·rename_i q2
    have q1:l.all isLine=true:=by
     cases e:l.all isLine with
     |true=>rfl
     |false =>
      rw[e]at q
      exact absurd rfl q
    have q2':¬16<l.length:=q2
    exact⟨h.shape,h.graph,Ps q1,by show(l.map Int.toNat).length<=16;rw[length_map];omega⟩
 |graph l =>
  show StOk (match readGraph l with
   |none=>(s,[-12])
   |some g=>({s with graph:=g},0::toInts [g.nodes.length,g.edges.length])).1
  cases e:readGraph l with
  |none=>exact h
  |some g=>exact⟨h.shape,Z8a e,h.warm,h.len⟩
 |row l=>exact h
 |ways l=>exact h
 |bounds v=>exact h
 |classes=>exact h
 |exact=>exact h
 |states v=>exact h
 |show_ v=>exact h
 |first v=>exact h
 |most n=>exact h
 |size=>exact h
noncomputable def tab:List (Option Nat×(List Int->Call)):=[(some 3,Z1j),(some 1,mk1 .lock),(some 1,mk1 .unlock),(none,.warm),(none,.graph),(none,.row),(none,.ways),(some 1,mk1 .bounds),(some 0,λ_=>.classes),(some 0,λ_=>.exact),(some 1,mk1 .states),(some 1,mk1 .show_),(some 1,mk1 .first),(some 1,mk1 .most),(some 0,λ_=>.size)]
structure Read (p:Int)(r:List Int)(c:List (List Int))(t:List Int)(j:Nat)(n:Option Nat)(mk:List Int->Call)(as:List Int):Prop where
 place:p=(j:Int)
 row:tab[j]?=some (n,mk)
 few:∀k,n=some k->as=r.take k/\t=r.drop k/\k<=r.length/\as.length=k
 lst:n=none->∃(z:Nat) (r2:List Int),r=(z:Int)::r2/\z<=r2.length/\as=r2.take z/\t=r2.drop z
 step:∀s,VawctbNeutral.step s c=Vawctb.step s (mk as)
 len:PyInside.call PyVawctb.bound c=true->as.length<=400
 whole:PyVawctb.whole c=c
theorem Zi2 {l:List Int}{x s:List Int}(h:PyFlat.row l=some (x,s)):∃(z:Nat) (r2:List Int),l=(z:Int)::r2/\z<=r2.length/\x=r2.take z/\s=r2.drop z:=by
 cases l with
 |nil=>cases h
 |cons n r =>
  have h:(if 0<=n/\n.toNat<=r.length then some (r.take n.toNat,r.drop n.toNat) else none)=some (x,s):=h
  split at h
  ·rename_i q
   cases h
   exact⟨n.toNat,r,by rw[Int.toNat_of_nonneg q.1],q.2,rfl,rfl⟩
  ·cases h
theorem Zi3 {p:Int}{r:List Int}{c:List (List Int)}{t:List Int}(h:(match PyFlat.rows 1 (r.drop 0) with
   |none=>none
   |some (xs,t)=>some ((p::r.take 0)::xs,t))=some (c,t)):∃(z:Nat) (r2:List Int),r=(z:Int)::r2/\z<=r2.length/\c=[[p],r2.take z]/\t=r2.drop z:=by
 have e:PyFlat.rows 1 (r.drop 0)=match PyFlat.row r with
  |none=>none
  |some (x,s)=>some ([x],s):=by
  show(match PyFlat.row (r.drop 0) with
   |none=>none
   |some (x,s)=>_)=_
  rw[List.drop_zero]
  rfl
 rw[e]at h
 cases q:PyFlat.row r with
 |none =>
  rw[q]at h
  cases h
 |some xs =>
  obtain⟨x,s⟩:=xs
  rw[q]at h
  cases h
  obtain⟨z,r2,h1,h2,h3,h4⟩:=Zi2 q
  exact⟨z,r2,h1,h2,by rw[h3];rfl,h4⟩
theorem Z9j {p:Int}{r:List Int}{c:List (List Int)}{t:List Int}(h:PyFlat.call PyVawctb.shape (p::r)=some (c,t)):∃j n mk as,Read p r c t j n mk as:=by
 have h:(match PyVawctb.shape p with
  |none=>none
  |some (n,k)=>if r.length<n then none else match PyFlat.rows k (r.drop n) with
   |none=>none
   |some (xs,t)=>some ((p::r.take n)::xs,t))=some (c,t):=h
 have few:∀(m:Nat),PyVawctb.shape p=some (m,0)->c=[p::r.take m]/\t=r.drop m/\m<=r.length:=λm hm=>by
  rw[hm]at h
  dsimp only at h
  split at h
  ·cases h
  ·have h:some ((p::r.take m)::[],r.drop m)=some (c,t):=h
   cases h
   exact⟨rfl,rfl,by omega⟩
 have lst:PyVawctb.shape p=some (0,1)->∃(z:Nat) (r2:List Int),r=(z:Int)::r2/\z<=r2.length/\c=[[p],r2.take z]/\t=r2.drop z:=λhm=>by
  rw[hm]at h
  dsimp only at h
  rw[if_neg (Nat.not_lt_zero _)]at h
  exact Zi3 h
 have mkF:∀(j m:Nat) (mk:List Int->Call),p=(j:Int)->tab[j]?=some (some m,mk)->PyVawctb.shape p=some (m,0)->m<=3->(∀as:List Int,as.length=m->(∀s,VawctbNeutral.step s [(j:Int)::as]=Vawctb.step s (mk as))/\PyVawctb.whole [(j:Int)::as]=[(j:Int)::as])->∃j n mk as,Read p r c t j n mk as:=λj m mk hp ht hs hm h3=>by
  obtain⟨e1,e2,e3⟩:=few m hs
  have hl:(r.take m).length=m:=by rw[length_take];omega
  refine⟨j,some m,mk,r.take m,hp,ht,λk hk=>?_,λq=>(nomatch q),λs=>?_,λ_=>by omega,?_⟩
  ·cases hk
   exact⟨rfl,e2,e3,hl⟩
  ·rw[e1,hp]
   exact(h3 _ hl).1 s
  ·rw[e1,hp]
   exact(h3 _ hl).2
 have mkL:∀(j:Nat) (mk:List Int->Call),p=(j:Int)->tab[j]?=some (none,mk)->PyVawctb.shape p=some (0,1)->(∀as:List Int,(∀s,VawctbNeutral.step s [[(j:Int)],as]=Vawctb.step s (mk as))/\PyVawctb.whole [[(j:Int)],as]=[[(j:Int)],as]/\(PyInside.call PyVawctb.bound [[(j:Int)],as]=true->as.length<=400))->∃j n mk as,Read p r c t j n mk as:=λj mk hp ht hs h3=>by
  obtain⟨z,r2,e1,e2,e3,e4⟩:=lst hs
  refine⟨j,none,mk,r2.take z,hp,ht,λk hk=>(nomatch hk),λ_=>⟨z,r2,e1,e2,rfl,e4⟩,λs=>?_,λq=>?_,?_⟩
  ·rw[e3,hp]
   exact(h3 _).1 s
  ·rw[e3,hp]at q
   exact(h3 _).2.2 q
  ·rw[e3,hp]
   exact(h3 _).2.1
 have len400:∀as:List Int,(PyInside.each [] []&&PyInside.lists [(-1000000000000000000,1000000000000000000,0,400)] [as])=true->as.length<=400:=λas q=>by
  have q:(true&&(decide (0<=as.length)&&decide (as.length<=400)&&as.all (PyInside.within (-1000000000000000000) 1000000000000000000)&&true))=true:=q
  rw[Bool.true_and,Bool.and_true,Bool.and_eq_true,Bool.and_eq_true,decide_eq_true_eq,decide_eq_true_eq]at q
  exact q.1.2
 have hsh:∃m,PyVawctb.shape p=some m:=by
  cases q:PyVawctb.shape p with
  |none =>
   rw[q]at h
   cases h
  |some m=>exact⟨m,rfl⟩
 obtain⟨m,hm⟩:=hsh
 have hp:p=0\/p=1\/p=2\/p=3\/p=4\/p=5\/p=6\/p=7\/p=8\/p=9\/p=10\/p=11\/p=12\/p=13\/p=14:=by
  unfold PyVawctb.shape at hm
  by_cases e0:p=0
  ·exact .inl e0
  by_cases e1:p=1
  ·exact .inr (.inl e1)
  by_cases e2:p=2
  ·simp[e2]
  by_cases e3:p=3
  ·simp[e3]
  by_cases e4:p=4
  ·simp[e4]
  by_cases e5:p=5
  ·simp[e5]
  by_cases e6:p=6
  ·simp[e6]
  by_cases e7:p=7
  ·simp[e7]
  by_cases e8:p=8
  ·simp[e8]
  by_cases e9:p=9
  ·simp[e9]
  by_cases e10:p=10
  ·simp[e10]
  by_cases e11:p=11
  ·simp[e11]
  by_cases e12:p=12
  ·simp[e12]
  by_cases e13:p=13
  ·simp[e13]
  by_cases e14:p=14
  ·simp[e14]
  ·rw[if_neg e0,if_neg e1,if_neg e2,if_neg e3,if_neg e4,if_neg e5,if_neg e6,if_neg e7,if_neg e8,if_neg e9,if_neg e10,if_neg e11,if_neg e12,if_neg e13,if_neg e14]at hm
   cases hm
 rcases hp with e | e | e | e | e | e | e | e | e | e | e | e | e | e | e
 ·exact mkF 0 3 Z1j e rfl (by rw[e];rfl) (by decide) λas ha=>match as,ha with | [_,_,_],_=>⟨λs=>rfl,rfl⟩
 ·exact mkF 1 1 (mk1 .lock) e rfl (by rw[e];rfl) (by decide) λas ha=>match as,ha with | [_],_=>⟨λs=>rfl,rfl⟩
 ·exact mkF 2 1 (mk1 .unlock) e rfl (by rw[e];rfl) (by decide) λas ha=>match as,ha with | [_],_=>⟨λs=>rfl,rfl⟩
 ·exact mkL 3 .warm e rfl (by rw[e];rfl) λas=>⟨λs=>rfl,rfl,λq=>len400 as q⟩
 ·exact mkL 4 .graph e rfl (by rw[e];rfl) λas=>⟨λs=>rfl,rfl,λq=>len400 as q⟩
 ·exact mkL 5 .row e rfl (by rw[e];rfl) λas=>⟨λs=>rfl,rfl,λq=>len400 as q⟩
 ·exact mkL 6 .ways e rfl (by rw[e];rfl) λas=>⟨λs=>rfl,rfl,λq=>len400 as q⟩
 ·exact mkF 7 1 (mk1 .bounds) e rfl (by rw[e];rfl) (by decide) λas ha=>match as,ha with | [_],_=>⟨λs=>rfl,rfl⟩
 ·exact mkF 8 0 (λ_=>.classes) e rfl (by rw[e];rfl) (by decide) λas ha=>match as,ha with | [],_=>⟨λs=>rfl,rfl⟩
 ·exact mkF 9 0 (λ_=>.exact) e rfl (by rw[e];rfl) (by decide) λas ha=>match as,ha with | [],_=>⟨λs=>rfl,rfl⟩
 ·exact mkF 10 1 (mk1 .states) e rfl (by rw[e];rfl) (by decide) λas ha=>match as,ha with | [_],_=>⟨λs=>rfl,rfl⟩
 ·exact mkF 11 1 (mk1 .show_) e rfl (by rw[e];rfl) (by decide) λas ha=>match as,ha with | [_],_=>⟨λs=>rfl,rfl⟩
 ·exact mkF 12 1 (mk1 .first) e rfl (by rw[e];rfl) (by decide) λas ha=>match as,ha with | [_],_=>⟨λs=>rfl,rfl⟩
 ·exact mkF 13 1 (mk1 .most) e rfl (by rw[e];rfl) (by decide) λas ha=>match as,ha with | [_],_=>⟨λs=>rfl,rfl⟩
 ·exact mkF 14 0 (λ_=>.size) e rfl (by rw[e];rfl) (by decide) λas ha=>match as,ha with | [],_=>⟨λs=>rfl,rfl⟩
end Sl
namespace Sl
open PySem PySem.Spec PyProof.Rows L2
noncomputable section
variable {X:Cx}{fe e:Expr}{es:List Expr}{pos:Pos}{tf:TE}{ta:TA}
noncomputable def Zld (P:Program)(w:World)(K:W.Frag)(mg:Str->Option Value)(base:Heap)(kmax:Nat)(tf:TE)(ta:TA):TE:=λσ H Q=>tf σ H λv H1=>∃f fd k ps sp,v=.ref f/\FnOk P w K mg base CX0 k f fd ps sp/\k<=kmax/\W.keepIn K (.ref f)=true/\Binds K fd ps []/\ta σ H1 λvs H2=>sp (vs++[]) H2 Q E0
theorem Zi4 {kmax:Nat}(hf:PE X fe tf)(hr:Room kmax X.A)(ha:PA X (e::es) ta)(hev:eval (.Call fe (e::es) [] pos) X.env=(do callWith pos (<-eval fe X.env) [] (backTo pos (starEach (e::es) X.env)) (backToKw pos (keywordEach [] X.env))):=by rfl)
  (he:starEach (e::es) X.env=(false,eval e X.env)::starEach es X.env:=by rfl) (hpl:(backTo pos (starEach es X.env)).any (·.1)=false:=by rfl) :
  PE X (.Call fe (e::es) [] pos) (Zld X.prog X.w X.K X.mg X.base kmax tf ta):=by
 intro pins s σ H Q I h
 refine Call_ (thn (hf pins s σ H _ I h) λu s1 ⟨v,H1,I1,rv,f,fd,k,ps,sp,ev,F,hk,kp,hb,q⟩=>?_) hev
 subst ev
 cases rv
 refine W.callWith_K (h₀:=X.base) I.ok.mod.kin kp (thn (ha pos pins s1 σ H1 _ I1 q) λus s2 ⟨vs,H2,I2,r,q2⟩=>⟨I2.kIn,?_⟩) he hpl
 exact Zia F (hr.mono hk) hb .nil Zh7 I2 r q2
noncomputable def Zmd (P:Program)(w:World)(K:W.Frag):R2:=λx y H Q=>∃d o es ep k v vv,x=.ref d/\y=.int k/\K.lookup d=some o/\o.ExactDict/\o.data=.dict es ep/\KeysOf (intKind P w) es/\findBy (intKind P w).is es k=some vv/\RelV v vv/\Q v H
theorem Zme:IxR X (Zmd X.prog X.w X.K):=by
 intro value slice pins s σ H x y v u Q I rx ry h hs
 obtain⟨d,o,es,ep,k,z,vv,rfl,rfl,hl,hx,hd,hk,hf,rz,q⟩:=h
 cases rx
 obtain⟨t,rfl⟩:=ry
 have hm:s.heap.MapOf (intKind X.prog X.w) d (λk=>findBy (intKind X.prog X.w).is es k):=⟨o,es,ep,I.kIn _ _ hl,hx,hd,hk,λ_=>rfl⟩
 exact subscriptTail_builtinR (x:=vv) hm.typeIs slot_dict_getitem.lookup
  (wpAny_getItem_of (knd:=intKind X.prog X.w) (k:=k) (Q:=λr s'=>r=vv/\EP X pins σ Q r s') (by show Value.isInt k (.int k t)=true;simp[Value.isInt]) hm hf ⟨rfl,z,H,I.tok _,rz,q⟩) hs
end
noncomputable section
variable {P:Program}{w:World}{K:W.Frag}{mg:Str->Option Value}{base:Heap}{C CG CH f:Addr}{fd:FuncData}
structure TCalls (P:Program)(w:World)(K:W.Frag)(mg:Str->Option Value)(base:Heap)(CH C CG:Addr):Prop where
 ex:∃(ct:Addr) (fs:List Addr),mg "CALLS"=some (.ref ct)/\(∀H:Hp,SqT K H ct (fs.map V.ref))/\∀(j:Nat) (n:Option Nat) (mk:List Int->Vawctb.Call),tab[j]?=some (n,mk)->∃f fd k,fs[j]?=some f/\k<=10/\FnOk P w K mg base CX0 k f fd ["held","numbers"] (spC CH C CG n mk)/\W.keepIn K (.ref f)=true/\Binds K fd ["held","numbers"] []
structure TLst (K:W.Frag)(mg:Str->Option Value):Prop where
 ex:∃ct:Addr,mg "CALLS_WITH_A_LIST"=some (.ref ct)/\∀H:Hp,SqT K H ct ([3,4,5,6].map V.int)
structure TNum (P:Program)(w:World)(K:W.Frag)(mg:Str->Option Value):Prop where
 ex:∃(d:Addr) (o:Obj) (es:Array DictEntry) (ep:Nat),mg "NUMBERS"=some (.ref d)/\K.lookup d=some o/\o.ExactDict/\o.data=.dict es ep/\KeysOf (intKind P w) es/\∀(j m:Nat) (mk:List Int->Vawctb.Call),tab[j]?=some (some m,mk)->∃vv,findBy (intKind P w).is es (j:Int)=some vv/\RelV (.int (m:Int)) vv
noncomputable def spAO (CH C CG:Addr):Sp:=λvs H Q _=>∃(p l:Addr) (j:Nat) (s:Vawctb.State) (ns:List Int) (n:Option Nat) (mk:List Int->Vawctb.Call),vs=[.ref p,.int (j:Int),.ref l]/\HeldAt CH C CG H p s/\StOk s/\H l=some (.lst (ns.map V.int))/\ns.length<=400/\tab[j]?=some (n,mk)/\(∀k,n=some k->ns.length=k)/\
 ∀(H':Hp) (t:Addr),But p H H'->HeldAt CH C CG H' p (Vawctb.step s (mk ns)).1->H' t=some (.lst ((Vawctb.step s (mk ns)).2.map V.int))->Q (.ref t) H'
theorem Z9k:FnScope ["held","call","numbers"] ["held","call","numbers"] (Zf Qu):=#[5]
theorem Z9l (F:Fun K "answer_of" "answer_of" Qu f fd)(TC:TCalls P w K mg base CH C CG):FnOk P w K mg base CX0 11 f fd ["held","call","numbers"] (spAO CH C CG):=by
 obtain⟨ct,fs,mC,sC,hC⟩:=TC.ex
 exists 0,Z9k
 ·obtain⟨p,l,j,s,ns,n,mk,rfl,hH,ok,hl,hz,ht,hn,k⟩:=h
  refine⟨_,Zd (Zj (Zi4 (kmax:=10) (Yp Zef (Zt (v:=.ref ct) rfl mC rfl) (pv 1) (λ_ _=>rfl)) hr (Za (pv 0) (Za (pv 2) Zc)))),?_⟩
  obtain⟨fj,fdj,kj,e1,e2,e3,e4,e5⟩:=hC j n mk ht
  refine⟨_,rfl,ct,_,_,V.ref fj,rfl,rfl,sC H,Ya (by rw[getElem?_map,e1];rfl),fj,fdj,kj,_,_,rfl,e3,e2,e4,e5,_,rfl,_,rfl,?_⟩
  exact⟨p,l,s,ns,rfl,hH,ok,hl,hz,hn,k⟩
theorem lt15 {j:Nat}(h:j<15):j=0\/j=1\/j=2\/j=3\/j=4\/j=5\/j=6\/j=7\/j=8\/j=9\/j=10\/j=11\/j=12\/j=13\/j=14:=by omega
theorem Ziz {j:Nat}{n:Option Nat}{mk:List Int->Vawctb.Call}(h:tab[j]?=some (n,mk)):inV (.int (j:Int)) ([3,4,5,6].map V.int)=n.isNone:=by
 rw[Jk]
 have hj:j<15:=(gse.mp h).1
 have hjs:=lt15 hj
 rcases hjs with e | e | e | e | e | e | e | e | e | e | e | e | e | e | e <;> subst e <;> (have h':=Option.some.inj h;have h1:=congrArg Prod.fst h';dsimp only at h1;rw[<-h1];decide)
noncomputable def spBg (K:W.Frag):Sp:=λvs H Q _=>∃(a:Addr) (ns:List Int) (i j:Nat) (n:Option Nat) (mk:List Int->Vawctb.Call),vs=[.ref a,.int (i:Int)]/\SqL K H a (ns.map V.int)/\ns[i]?=some (j:Int)/\tab[j]?=some (n,mk)/\Q (.int ((i+if n.isNone then 2 else 1:Nat):Int)) H
theorem Jc:FnScope ["calls","place"] ["calls","place"] (Zf Vk):=#[5]
theorem Jd (F:Fun K "numbers_begin" "numbers_begin" Vk f fd)(TL:TLst K mg):FnOk P w K mg base CX0 1 f fd ["calls","place"] (spBg K):=by
 obtain⟨ct,mL,sL⟩:=TL.ex
 exists 0,Jc
 ·obtain⟨a,ns,i,j,n,mk,rfl,hs,hi,ht,k⟩:=h
  refine⟨_,Zd (Zj (Wg (Zo Xh (Yp Zy (pv 0) (pv 1) (λ_ _=>rfl)) (Zt (v:=.ref ct) rfl mL rfl) rfl) (Ym Xe (pv 1) Zn) (Ym Xe (pv 1) Zn))),?_⟩
  have hget:(ns.map V.int)[i]?=some (V.int (j:Int)):=by rw[getElem?_map,hi];rfl
  refine⟨_,rfl,_,rfl,a,_,_,_,rfl,rfl,hs,Ya hget,ct,_,rfl,.inr (sL H),rfl,Z8r _,_,rfl,?_⟩
  show if inV (.int (j:Int)) ([3,4,5,6].map V.int)=true then _ else _
  rw[Ziz ht]
  cases q:n.isNone with
  |true =>
   rw[q]at k
   exact iteT ⟨_,rfl,_,_,rfl,rfl,k⟩
  |false =>
   rw[q]at k
   exact iteF ⟨_,rfl,_,_,rfl,rfl,k⟩
noncomputable def spEn (K:W.Frag):Sp:=λvs H Q _=>∃(a:Addr) (ns:List Int) (i j e:Nat) (n:Option Nat) (mk:List Int->Vawctb.Call),vs=[.ref a,.int (i:Int)]/\SqL K H a (ns.map V.int)/\ns[i]?=some (j:Int)/\tab[j]?=some (n,mk)/\(∀m,n=some m->e=i+1+m)/\(n=none->∃z:Nat,ns[i+1]?=some (z:Int)/\e=i+2+z)/\Q (.int (e:Int)) H
theorem Z2r:FnScope ["calls","place"] ["calls","place"] (Zf Uy):=#[5]
theorem Z2s (F:Fun K "numbers_end" "numbers_end" Uy f fd)(TL:TLst K mg)(TN:TNum P w K mg):FnOk P w K mg base CX0 1 f fd ["calls","place"] (spEn K):=by
 obtain⟨ct,mL,sL⟩:=TL.ex
 obtain⟨d,o,es,ep,mN,n1,n2,n3,n4,n5⟩:=TN.ex
 exists 0,Z2r
 ·obtain⟨a,ns,i,j,e,n,mk,rfl,hs,hi,ht,h1,h2,k⟩:=h
  refine⟨_,Zb (Yh (Zo Xh (Yp Zy (pv 0) (pv 1) (λ_ _=>rfl)) (Zt (v:=.ref ct) rfl mL rfl) rfl) (Zd (Zj (Ym Xe (Ym Xe (pv 1) Zn) (Yp Zy (pv 0) (Ym Xe (pv 1) Zn) (λ_ _=>rfl))))) Zr)
   (Zd (Zj (Ym Xe (Ym Xe (pv 1) Zn) (Yp Zme (Zt (v:=.ref d) rfl mN rfl) (Yp Zy (pv 0) (pv 1) (λ_ _=>rfl)) (λ_ _=>rfl))))),?_⟩
  have hget:(ns.map V.int)[i]?=some (V.int (j:Int)):=by rw[getElem?_map,hi];rfl
  refine⟨_,rfl,_,rfl,a,_,_,_,rfl,rfl,hs,Ya hget,ct,_,rfl,.inr (sL H),rfl,Z8r _,_,rfl,?_⟩
  show if inV (.int (j:Int)) ([3,4,5,6].map V.int)=true then _ else _
  rw[Ziz ht]
  cases n with
  |none =>
   obtain⟨z,hz,rfl⟩:=h2 rfl
   have hget2:(ns.map V.int)[i+1]?=some (V.int (z:Int)):=by rw[getElem?_map,hz];rfl
   refine iteT ⟨_,rfl,_,_,rfl,rfl,_,rfl,_,rfl,_,_,rfl,rfl,a,_,_,_,rfl,rfl,hs,Zeu (j:=i+1) (by show(i:Int)+1=_;omega) hget2,_,_,rfl,rfl,?_⟩
   have e3:((i+2+z:Nat):Int)=(i:Int)+2+(z:Int):=by omega
   rw[e3]at k
   exact k
  |some m =>
   have he:=h1 m rfl
   subst he
   obtain⟨vv,v1,v2⟩:=n5 j m mk ht
   refine iteF ⟨_,rfl,_,_,rfl,rfl,_,rfl,_,rfl,a,_,_,_,rfl,rfl,hs,Ya hget,d,o,es,ep,_,_,vv,rfl,rfl,n1,n2,n3,n4,v1,v2,_,_,rfl,rfl,?_⟩
   have e3:((i+1+m:Nat):Int)=(i:Int)+1+(m:Int):=by omega
   rw[e3]at k
   exact k
end
noncomputable def Left (l:List Int)(cs:List (List (List Int))):Prop:=∃f,PyFlat.calls PyVawctb.shape f l=some cs
theorem Zc9 {cs:List (List (List Int))}(h:Left [] cs):cs=[]:=by
 obtain⟨f,h⟩:=h
 cases f <;> (cases h;rfl)
theorem Z9m {p:Int}{r:List Int}{cs:List (List (List Int))}(h:Left (p::r) cs):∃c t cs',PyFlat.call PyVawctb.shape (p::r)=some (c,t)/\cs=c::cs'/\Left t cs':=by
 obtain⟨f,h⟩:=h
 cases f with
 |zero=>cases h
 |succ f =>
  have h:(match PyFlat.call PyVawctb.shape (p::r) with
   |none=>none
   |some (c,t)=>match PyFlat.calls PyVawctb.shape f t with
    |none=>none
    |some cs=>some (c::cs))=some cs:=h
  cases e:PyFlat.call PyVawctb.shape (p::r) with
  |none =>
   rw[e]at h
   cases h
  |some ct =>
   obtain⟨c,t⟩:=ct
   rw[e]at h
   dsimp only at h
   cases e2:PyFlat.calls PyVawctb.shape f t with
   |none =>
    rw[e2]at h
    cases h
   |some cs' =>
    rw[e2]at h
    cases h
    exact⟨c,t,cs',rfl,rfl,f,e2⟩
theorem Zgr (a:List Int)(as:List (List Int)):PyFlat.told (a::as)=(a.length:Int)::(a++PyFlat.told as):=rfl
theorem Qz (as bs:List (List Int)):PyFlat.told (as++bs)=PyFlat.told as++PyFlat.told bs:=by unfold PyFlat.told;rw[List.flatMap_append]
noncomputable section
variable {P:Program}{w:World}{K:W.Frag}{mg:Str->Option Value}{base:Heap}{C CG CH f:Addr}{fd:FuncData}
noncomputable def Zca (K:W.Frag):Sp:=λvs H Q _=>∃(a:Addr) (ns:List Int),vs=[.ref a]/\SqL K H a (ns.map V.int)/\PyVawctb.answers_asked ns=true/\ns.length<=17000/\∀(H':Hp) (t:Addr),H' t=some (.lst ((PyVawctb.answers ns).map V.int))->Q (.ref t) H'
theorem Zdm:FnScope ["calls","held","told","place","end","answer"] ["calls"] (Zf Od):=#[5]
structure SoFar (ns:List Int)(cs:List (List (List Int)))(i:Nat)(s:Vawctb.State)(as:List (List Int)):Prop where
 left:Left (ns.drop i) cs
 inside:PyInside.calls PyVawctb.bound cs=true
 le:i<=ns.length
 ok:StOk s
 all:PyVawctb.answers ns=PyFlat.told as++PyFlat.told (PyFlat.played VawctbNeutral.step s cs)
theorem Zgs {cs:List (List (List Int))}:∀{l:List Int},Left l cs->cs.map PyVawctb.whole=cs:=by
 induction cs with
 |nil=>exact λ_=>rfl
 |cons c cs ih =>
  intro l h
  cases l with
  |nil =>
   have:=Zc9 h
   cases this
  |cons p r =>
   obtain⟨c',t,cs',h1,h2,h3⟩:=Z9m h
   cases h2
   obtain⟨j,n,mk,as,R⟩:=Z9j h1
   rw[List.map_cons,R.whole,ih h3]
theorem SoFar.first {ns:List Int}(h:PyVawctb.answers_asked ns=true):∃cs,SoFar ns cs 0 Vawctb.start []/\(PyVawctb.answers ns).length<=10000000:=by
 unfold PyVawctb.answers_asked at h
 cases e:PyFlat.calls PyVawctb.shape ns.length ns with
 |none =>
  rw[e]at h
  cases h
 |some raw =>
  rw[e]at h
  dsimp only at h
  rw[Bool.and_eq_true,Bool.and_eq_true,Bool.and_eq_true]at h
  obtain⟨⟨⟨_,h2⟩,_⟩,h4⟩:=h
  have hl:Left (ns.drop 0) raw:=⟨ns.length,by rw[List.drop_zero];exact e⟩
  refine⟨raw,⟨hl,h2,Nat.zero_le _,Zdl,?_⟩,of_decide_eq_true h4⟩
  unfold PyVawctb.answers PyVawctb.calls
  rw[e]
  dsimp only
  rw[Zgs hl]
  rfl
theorem HeldAt.mono {CH C CG:Addr}{H H2:Hp}{p:Addr}{s:Vawctb.State}(h:HeldAt CH C CG H p s)(k:∀b o,H b=some o->(∀fs,o≠.xd fs)->(∀c d,o≠.frz c d)->H2 b=some o):HeldAt CH C CG H2 p s:=by
 have kl:∀b xs,H b=some (.lst xs)->H2 b=some (.lst xs):=λb xs e=>k b _ e (by intro _ q;cases q) (by intro _ _ q;cases q)
 have kt:∀b xs,H b=some (.tup xs)->H2 b=some (.tup xs):=λb xs e=>k b _ e (by intro _ q;cases q) (by intro _ _ q;cases q)
 have ki:∀b A dx fs,H b=some (.ins A dx fs)->H2 b=some (.ins A dx fs):=λb A dx fs e=>k b _ e (by intro _ q;cases q) (by intro _ _ q;cases q)
 obtain⟨dx,fs,pc,lw,pg,h1,h2,⟨dc,fc,c1,c2,c3,c4,la,c5,c6⟩,h4,⟨dg,fg,ll,el,d1,d2,d3,⟨as,l1,l2,l3⟩,⟨ts,e1,e2,e3⟩⟩⟩:=h
 exact⟨dx,fs,pc,lw,pg,ki _ _ _ _ h1,h2,⟨dc,fc,ki _ _ _ _ c1,c2,c3,c4,la,c5,kl _ _ c6⟩,kl _ _ h4,⟨dg,fg,ll,el,ki _ _ _ _ d1,d2,d3,⟨as,kl _ _ l1,l2,λi a l x y=>kl _ _ (l3 i a l x y)⟩,⟨ts,kl _ _ e1,e2,λi t e x y=>kt _ _ (e3 i t e x y)⟩⟩⟩
theorem Zdn (F:Fun K "answers" "answers" Od f fd)(B:Blt mg)(kH:#[99])(kE:#[100])(kB:#[101])(kA:#[102]) :
  FnOk P w K mg base CX0 12 f fd ["calls"] (Zca K):=by
 obtain⟨fH,fdH,okH,mH,MH,bH⟩:=kH.ex
 exists 0,Zdm
 ·obtain⟨a,ns,rfl,hs,hask,hnl,k⟩:=h
  have hr1:Room 1 _:=hr.mono (by decide)
  refine⟨_,Zb (#[0,1,Zh2 MH okH #[2] rfl mH bH .nil Zh7])
   (Zb (#[0,2,Zv Zc])
   (Zb (#[0,3,Zn])
   (Zb (Je PassesOwn.never (Zo Z9q (pv 3) (#[6,Za (pv 0) Zc]) rfl)
    (Zb (#[0,4,Zs kE hr1 (Za (pv 0) (Za (pv 3) Zc))])
    (Zb (#[0,5,Zji (Zs kA hr (Za (pv 1) (Za (Yp Zy (pv 0) (pv 3) (λ_ _=>rfl)) (Za (Sm Z3x (pv 0) (Tf (Zs kB hr1 (Za (pv 0) (Za (pv 3) Zc)))) (Tf (pv 4))) Zc))))])
    (Zb (Xd (#[3,pv 2,Za (#[6,Za (pv 5) Zc]) Zc]))
    (Zb (Xd (#[4,pv 2,Za (pv 5) Zc]))
    (Zd (#[0,3,pv 4])))))))
   (Zd (Zj (pv 2)))))),?_⟩
  intro x dx nx nd ne
  refine⟨x,dx,rfl,Ze,λH1 h1 k1=>⟨rfl,?_⟩⟩
  have s1:Same H H1:=λb o e=>k1 b o (by
   rw[Zk (Zm e nx),Zk (Zm e nd)]
   exact e) (Zm e nx)
  refine⟨Nat.zero_le _,λm hm=>?_⟩
  obtain⟨s2,f2⟩:=newE hm (.lst [])
  have h2:HeldAt CH C CG (upd (upd H1 m (.lst [])) m (.xd [])) x Vawctb.start:=h1.mono λb o e _ _=>by
   rw[Zk (Zm e hm),Zk (Zm e hm)]
   exact e
  generalize upd H1 m (.lst [])=H2 at s2 f2 h2 ⊢
  obtain⟨cs0,sf0,htot⟩:=SoFar.first hask
  refine⟨λn σ H'=>∃(i:Nat) (cs:List (List (List Int))) (s:Vawctb.State) (as:List (List Int)) (v4 v5:Option V),σ=[some (.ref a),some (.ref x),some (.ref m),some (.int (i:Int)),v4,v5]/\Same H H'/\HeldAt CH C CG (upd H' m (.xd [])) x s/\SoFar ns cs i s as/\H' m=some (.lst ((PyFlat.told as).map V.int))/\n=ns.length-i,
   ⟨_,0,cs0,Vawctb.start,[],none,none,rfl,s1.trans s2,h2,sf0,f2,rfl⟩,?_⟩
  rintro n σ H3 ⟨i,cs,st,as,v4,v5,rfl,s3,h3,sf,f3,en⟩
  refine⟨_,rfl,_,rfl,a,_,rfl,.inl (s3.seq hs),_,_,rfl,rfl,_,rfl,?_⟩
  show if decide ((i:Int)<(((ns.map V.int).length:Nat):Int))=true then _ else _
  rw[length_map]
  refine ite2 (λz=>?_) λz=>?_
  ·have hlt:i<ns.length:=by
    have:=of_decide_eq_true z
    omega
   obtain⟨p,hp⟩:∃p,ns[i]?=some p:=⟨_,getElem?_eq_getElem hlt⟩
   have hdrop:ns.drop i=p::ns.drop (i+1):=by
    rw[List.drop_eq_getElem_cons hlt]
    congr 1
    rw[getElem?_eq_getElem hlt]at hp
    exact Option.some.inj hp
   have hL:=sf.left
   rw[hdrop]at hL
   obtain⟨c,t,cs',c1,c2,c3⟩:=Z9m hL
   subst c2
   obtain⟨j,nn,mk,args,R⟩:=Z9j c1
   have hpj:=R.place
   subst hpj
   have hin:PyInside.call PyVawctb.bound c=true/\PyInside.calls PyVawctb.bound cs'=true:=by
    have:=sf.inside
    unfold PyInside.calls at this ⊢
    rw[List.all_cons,Bool.and_eq_true]at this
    exact this
   have hlen:=R.len hin.1
   obtain⟨e,he1,he2,he3,he4,he5,he6⟩:∃e:Nat,(∀q,nn=some q->e=i+1+q)/\(nn=none->∃z:Nat,ns[i+1]?=some (z:Int)/\e=i+2+z)/\t=ns.drop e/\e<=ns.length/\i<e/\args=(ns.take e).drop (i+if nn.isNone then 2 else 1):=by
    cases nn with
    |some q =>
     obtain⟨q1,q2,q3,q4⟩:=R.few q rfl
     rw[length_drop]at q3
     refine⟨i+1+q,λ_ h=>by cases h;rfl,λh=>(nomatch h),by rw[q2,List.drop_drop],by omega,by omega,?_⟩
     rw[q1,List.drop_take]
     show _=(ns.drop (i+1)).take (i+1+q-(i+1))
     rw[show i+1+q-(i+1)=q by omega]
    |none =>
     obtain⟨zz,r2,r3,r4,r5,r6⟩:=R.lst rfl
     have hg:ns[i+1]?=some (zz:Int):=by
      have:(ns.drop (i+1))[0]?=some (zz:Int):=by rw[r3];rfl
      rwa [List.getElem?_drop]at this
     have hr2:r2=ns.drop (i+2):=by
      have:(ns.drop (i+1)).drop 1=r2:=by rw[r3];rfl
      rw[<-this,List.drop_drop]
     rw[hr2,length_drop]at r4
     have hil:=(gse.mp hg).1
     refine⟨i+2+zz,λ_ h=>(nomatch h),λ_=>⟨zz,hg,rfl⟩,by rw[r6,hr2,List.drop_drop],by omega,by omega,?_⟩
     rw[r5,hr2,List.drop_take]
     show _=(ns.drop (i+2)).take (i+2+zz-(i+2))
     rw[show i+2+zz-(i+2)=zz by omega]
   have hstep:=R.step st
   have hok:=Zgq sf.ok (mk args)
   have hall:PyVawctb.answers ns=PyFlat.told (as++[(Vawctb.step st (mk args)).2])++PyFlat.told (PyFlat.played VawctbNeutral.step (Vawctb.step st (mk args)).1 cs'):=by
    rw[sf.all,Qz,append_assoc]
    congr 1
    show PyFlat.told ((VawctbNeutral.step st c).2::PyFlat.played VawctbNeutral.step (VawctbNeutral.step st c).1 cs')=_
    rw[hstep,Zgr]
    show _=((Vawctb.step st (mk args)).2.length:Int)::((Vawctb.step st (mk args)).2++[])++_
    rw[append_nil]
    rfl
   refine⟨λσ' H'=>∃(v4 v5:Option V),σ'=[some (.ref a),some (.ref x),some (.ref m),some (.int (e:Int)),v4,v5]/\Same H H'/\HeldAt CH C CG (upd H' m (.xd [])) x (Vawctb.step st (mk args)).1/\H' m=some (.lst ((PyFlat.told (as++[(Vawctb.step st (mk args)).2])).map V.int)),?_,?_⟩
   ·rintro σ' H' ⟨w4,w5,rfl,s',h',f'⟩
    exact⟨ns.length-e,by omega,e,cs',_,_,w4,w5,rfl,s',h',⟨by rw[<-he3];exact c3,hin.2,he4,hok,hall⟩,f',rfl⟩
   ·refine⟨_,rfl,_,rfl,a,ns,i,j,e,nn,mk,rfl,s3.seq hs,hp,R.row,he1,he2,?_⟩
    have hget:(ns.map V.int)[i]?=some (V.int (j:Int)):=by rw[getElem?_map,hp];rfl
    have hx0:H x=none:=nx
    have hm0:H m=none:=s1.free hm
    have hxm:m≠x:=by
     obtain⟨dq,fq,pq,lq,gq,q1,_⟩:=h3
     intro q
     rw[<-q,Ze]at q1
     cases q1
    refine⟨m,_,f3,trivial,λod=>?_⟩
    have sK:=(chg (o:=.frz od (.lst ((PyFlat.told as).map V.int))) s3 hm0).1
    have fK:upd H3 m (.frz od (.lst ((PyFlat.told as).map V.int))) m=some (.frz od (.lst ((PyFlat.told as).map V.int))):=Ze
    have hK:HeldAt CH C CG (upd H3 m (.frz od (.lst ((PyFlat.told as).map V.int)))) x st:=h3.mono λb o eb q1 q2=>by
     have nb:b≠m:=λz=>by
      rw[z,Ze]at eb
      exact q1 [] (Option.some.inj eb).symm
     rw[Zk nb]at eb ⊢
     exact eb
    generalize upd H3 m (.frz od _)=HK at sK fK hK ⊢
    refine⟨_,rfl,_,rfl,_,rfl,a,_,_,_,rfl,rfl,sK.seq hs,Ya hget,_,rfl,?_⟩
    refine⟨_,rfl,_,rfl,a,ns,i,j,nn,mk,rfl,sK.seq hs,hp,R.row,_,rfl,_,rfl,_,rfl,a,_,rfl,sK.seq hs,λt4 ht4=>?_⟩
    have hcut:cutV (ns.map V.int) (some ((i+if nn.isNone then 2 else 1:Nat):Int)) (some (e:Int))=args.map V.int:=by
     rw[Z7m,he6,List.map_drop,List.map_take]
    rw[hcut]
    obtain⟨s4,f4⟩:=newE ht4 (.lst (args.map V.int))
    generalize upd HK t4 _=H4 at s4 f4 ⊢
    have hfew:∀q,nn=some q->args.length=q:=λq hq=>(R.few q hq).2.2.2
    refine⟨x,t4,j,st,args,nn,mk,rfl,hK.same s4,sf.ok,f4,hlen,R.row,hfew,λH5 u b5 h5 f5=>?_⟩
    have f5m:=b5 _ _ (s4 _ _ fK) hxm
    have hum:u≠m:=Xl f5 f5m (by intro q;cases q)
    refine⟨f5m,?_⟩
    have s5:Same H H5:=λb o eb=>b5 b o (s4 _ _ (sK _ _ eb)) (Zm eb hx0)
    have htot2:(PyFlat.told as).length+((Vawctb.step st (mk args)).2.length+1)<=10000000:=by
     rw[hall,Qz,length_append,length_append]at htot
     have:(PyFlat.told [(Vawctb.step st (mk args)).2]).length=(Vawctb.step st (mk args)).2.length+1:=by
      show(((Vawctb.step st (mk args)).2.length:Int)::((Vawctb.step st (mk args)).2++[])).length=_
      rw[append_nil,length_cons]
     omega
    generalize (Vawctb.step st (mk args)).2=an at f5 htot2
    generalize (Vawctb.step st (mk args)).1=st' at h5
    have s6:=(chg (o:=.lst ((PyFlat.told as).map V.int)) s5 hm0).1
    have h6:∀o,HeldAt CH C CG (upd (upd H5 m o) m (.xd [])) x st':=λo=>h5.mono λb o' eb _ q2=>by
     have nb:b≠m:=λz=>by
      rw[z,f5m]at eb
      exact q2 _ _ (Option.some.inj eb).symm
     rw[Zk nb,Zk nb]
     exact eb
    have h6':=h6 (.lst ((PyFlat.told as).map V.int))
    have f6u:=Yl (m:=m) (o:=.lst ((PyFlat.told as).map V.int)) f5 hum
    have f6m:upd H5 m (.lst ((PyFlat.told as).map V.int)) m=some (.lst ((PyFlat.told as).map V.int)):=Ze
    generalize upd H5 m (.lst _)=H6 at s6 h6' f6u f6m ⊢
    refine⟨_,rfl,.inl ⟨rfl,_,SqL.of f6m⟩,_,rfl,u,_,rfl,.inl (SqL.of f6u),m,_,_,rfl,rfl,f6m,?_,?_⟩
    ·rw[length_map]
     show _<2 ^ 24
     omega
    have s7:=(chg (o:=.lst ((PyFlat.told as).map V.int++[V.int (((an.map V.int).length:Nat):Int)])) s6 hm0).1
    have h7:HeldAt CH C CG (upd (upd H6 m (.lst ((PyFlat.told as).map V.int++[V.int (((an.map V.int).length:Nat):Int)]))) m (.xd [])) x st':=by
     rw[Zdq]
     exact h6'
    have f7u:=Yl (m:=m) (o:=.lst ((PyFlat.told as).map V.int++[V.int (((an.map V.int).length:Nat):Int)])) f6u hum
    have f7m:upd H6 m (.lst ((PyFlat.told as).map V.int++[V.int (((an.map V.int).length:Nat):Int)])) m=some (.lst ((PyFlat.told as++[(an.length:Int)]).map V.int)):=by
     rw[Ze,map_append,length_map]
     rfl
    generalize upd H6 m (.lst _)=H7 at s7 h7 f7u f7m ⊢
    refine⟨_,rfl,.inl ⟨rfl,_,SqL.of f7m⟩,_,rfl,m,u,_,_,rfl,rfl,f7m,f7u,?_,?_⟩
    ·rw[length_map,length_map,length_append,length_singleton]
     show _<=2 ^ 24
     omega
    have s8:=(chg (o:=.lst ((PyFlat.told as++[(an.length:Int)]).map V.int++an.map V.int)) s7 hm0).1
    refine⟨_,rfl,some (.int (e:Int)),some (.ref u),rfl,s8,by rw[Zdq];exact h7,?_⟩
    rw[Ze,Qz,<-map_append,append_assoc]
    show _=some (HO.lst ((PyFlat.told as++((an.length:Int)::(an++[]))).map V.int))
    rw[append_nil]
    rfl
  ·have hge:ns.length<=i:=by
    have:¬(i:Int)<(ns.length:Int):=λq=>z (decide_eq_true q)
    omega
   have hil:=sf.le
   have hi:i=ns.length:=by omega
   have hL:=sf.left
   rw[hi,List.drop_length]at hL
   have hcs:=Zc9 hL
   have hall:=sf.all
   rw[hcs]at hall
   have hall':PyVawctb.answers ns=PyFlat.told as:=by
    rw[hall]
    exact append_nil _
   refine⟨_,rfl,k H3 m ?_⟩
   rw[hall']
   exact f3
end
structure FnTop (K:W.Frag)(mg:Str->Option Value)(x:Str)(st:Stmt):Prop where
 ex:∃f fd,mg x=some (.ref f)/\Fun K x x st f fd
structure ClsTop (K:W.Frag)(mg:Str->Option Value)(x qual:Str)(st:Stmt)(as:List Str):Prop where
 ex:∃C f fd,mg x=some (.ref C)/\Fun K "__init__" qual st f fd/\Mk K C f/\Cls K C/\∀a∈as,NoAttr K C a
noncomputable def Zgt:List Str:=["cache_call","lock_call","unlock_call","warm_call","graph_call","row_call","ways_call","bounds_call","classes_call","exact_call","states_call","show_call","first_call","most_call","size_call"]
structure CallsTop (K:W.Frag)(mg:Str->Option Value):Prop where
 ex:∃(ct:Addr) (fs:List Addr),mg "CALLS"=some (.ref ct)/\(∀H:Hp,SqT K H ct (fs.map V.ref))/\∀(j:Nat) (x:Str),Zgt[j]?=some x->∃f,fs[j]?=some f/\mg x=some (.ref f)
noncomputable section
variable {P:Program}{w:World}{K:W.Frag}{h:Heap}{mg:Str->Option Value}{base:Heap}
theorem Zi5 {x:Str}{st:Stmt}{f:Addr}{oc:Value}{od an:Option Addr}{osl:Array (Option Value)}{kV doc pm cdv ct:Value}(X:K.In h)(G:h.Ns mainGlobals mg)(a:W.nsIn K mainGlobals x=some (some (.ref f)))
  (l:K.lookup f=some ⟨oc,od,.func (W.fnOf x x (Tk st) (Uf st) (Zf st) .none kV doc pm an cdv ct),osl⟩) (c:W.codeIn K cdv x=true) (k:W.keepIn K (.ref f)=true):FnTop K mg x st:=⟨f,_,W.mg_of X G a,Zii l c k⟩
theorem Zgu {x qual:Str}{st:Stmt}{as:List Str}{C f:Addr}{oc:Value}{od an:Option Addr}{osl:Array (Option Value)}{kV doc pm cdv ct:Value}(X:K.In h)(G:h.Ns mainGlobals mg)(a:W.nsIn K mainGlobals x=some (some (.ref C)))
  (i:W.findIn K (.ref C) "__init__"=some (some (.ref f))) (l:K.lookup f=some ⟨oc,od,.func (W.fnOf "__init__" qual (Tk st) (Uf st) (Zf st) .none kV doc pm an cdv ct),osl⟩) (c:W.codeIn K cdv qual=true) (k:W.keepIn K (.ref f)=true)
  (fn:W.isFn K (.ref f)=true) (mk:W.makesIn K C=true) (kc:W.keepIn K (.ref C)=true) (pg:W.plainGet K C Str.empty=true) (hd:W.hasDictIn K C=true) (po:W.plainOver K C=true) (sa:W.findIn K (.ref C) "__setattr__"=some (some (.builtin "object.__setattr__")))
  (at_:∀a∈as,NoAttr K C a):ClsTop K mg x qual st as:=⟨C,f,_,W.mg_of X G a,Zii l c k,⟨mk,i,fn,kc⟩,⟨pg,hd,po,sa⟩,at_⟩
theorem Zle {x:Str}{n:Int}{t:Tok}(X:K.In h)(G:h.Ns mainGlobals mg)(a:W.nsIn K mainGlobals x=some (some (.int n t))):Cst mg x n:=⟨_,W.mg_of X G a,_,rfl⟩
noncomputable def AllL:Nat->(List Value->Prop)->Prop
 |0,p=>p []
 |n+1,p=>∀a,AllL n λus=>p (a::us)
theorem AllL.of:∀{n:Nat} {p:List Value->Prop},AllL n p->∀us:List Value,us.length=n->p us
 |0,_,h,[],_=>h
 |_+1,_,h,a::us,e=>AllL.of (h a) us (Nat.succ.inj e)
theorem kbd {x qual:Str}{st:Stmt}{f:Addr}{fd:FuncData}{ps:List Str}(F:Fun K x qual st f fd)(hb:∀(kV doc pm:Value) (an:Option Addr) (cdv ct:Value),AllL ps.length λus=>bindArgs (W.fnOf x qual (Tk st) (Uf st) (Zf st) .none kV doc pm an cdv ct) ⟨us,[]⟩=pure (ps.zip us):=by first | (exact λ_ _ _ _ _ _ _=>rfl) | (exact λ_ _ _ _ _ _ _ _=>rfl) | (exact λ_ _ _ _ _ _ _ _ _=>rfl) | (exact λ_ _ _ _ _ _ _ _ _ _=>rfl) | (exact λ_ _ _ _ _ _ _ _ _ _ _=>rfl) | (exact λ_ _ _ _ _ _ _ _ _ _ _ _=>rfl)):Binds K fd ps []:=F.binds λkV doc pm an cdv ct us hl=>(hb kV doc pm an cdv ct).of us hl
theorem knx {x:Str}{st:Stmt}{k:Nat}{ps:List Str}{sp:Sp}(T:FnTop K mg x st)(ok:∀f fd,Fun K x x st f fd->FnOk P w K mg base CX0 k f fd ps sp)(hb:∀(kV doc pm:Value) (an:Option Addr) (cdv ct:Value),AllL ps.length λus=>bindArgs (W.fnOf x x (Tk st) (Uf st) (Zf st) .none kV doc pm an cdv ct) ⟨us,[]⟩=pure (ps.zip us):=by first | (exact λ_ _ _ _ _ _ _=>rfl) | (exact λ_ _ _ _ _ _ _ _=>rfl) | (exact λ_ _ _ _ _ _ _ _ _=>rfl) | (exact λ_ _ _ _ _ _ _ _ _ _=>rfl) | (exact λ_ _ _ _ _ _ _ _ _ _ _=>rfl) | (exact λ_ _ _ _ _ _ _ _ _ _ _ _=>rfl)):Kn P w K mg base x k ps sp:=by
 obtain⟨f,fd,hm,F⟩:=T.ex
 exact⟨f,fd,ok f fd F,hm,F.kp,kbd F hb⟩
theorem Z9n {x qual:Str}{st:Stmt}{C f:Addr}{fd:FuncData}{k:Nat}{ps:List Str}{sp:Sp}(hm:mg x=some (.ref C))(F:Fun K "__init__" qual st f fd)(M:Mk K C f)(hb:Binds K fd ps [])(ok:FnOk P w K mg base CX0 k f fd ps sp):Kc P w K mg base x C k ps sp:=⟨f,fd,ok,hm,M,hb⟩
theorem Yx {CH C CG:Addr}{fs:List Addr}{x:Str}{k j:Nat}{n:Option Nat}{mk:List Int->Vawctb.Call}(hk:k<=10)(kn:Kn P w K mg base x k ["held","numbers"] (spC CH C CG n mk))(hf:∃f,fs[j]?=some f/\mg x=some (.ref f)) :
  ∃f fd k,fs[j]?=some f/\k<=10/\FnOk P w K mg base CX0 k f fd ["held","numbers"] (spC CH C CG n mk)/\W.keepIn K (.ref f)=true/\Binds K fd ["held","numbers"] []:=by
 obtain⟨f,e1,e2⟩:=hf
 obtain⟨f',fd,ok,hm,kp,hb⟩:=kn.ex
 rw[e2]at hm
 cases hm
 exact⟨f,fd,k,e1,hk,ok,kp,hb⟩
structure Top (P:Program)(w:World)(K:W.Frag)(mg:Str->Option Value):Prop where
 blt:Blt mg
 rev:mg "reversed"=none
 lst:TLst K mg
 num:TNum P w K mg
 calls:CallsTop K mg
 cl_Cache:ClsTop K mg "Cache" "Cache.__init__" To ["sets","ways","rule","locked"]
 cl_Passage:ClsTop K mg "Passage" "Passage.__init__" Vt ["misses","state"]
 cl_Bounds:ClsTop K mg "Bounds" "Bounds.__init__" Ul ["sure","possible"]
 cl_Rounds:ClsTop K mg "Rounds" "Rounds.__init__" Uo ["number","before"]
 cl_Graph:ClsTop K mg "Graph" "Graph.__init__" Ty ["lines","edges"]
 cl_Moment:ClsTop K mg "Moment" "Moment.__init__" Us ["node","state","stood","before","line"]
 cl_Step:ClsTop K mg "Step" "Step.__init__" Qo ["miss","places"]
 cl_Held:ClsTop K mg "Held" "Held.__init__" Qq ["cache","warm","graph"]
 f_share_set:FnTop K mg "share_set" Rx
 f_room_for:FnTop K mg "room_for" Ot
 f_are_lines:FnTop K mg "are_lines" Ry
 f_empty_state:FnTop K mg "empty_state" Uk
 f_is_hit:FnTop K mg "is_hit" Z4s
 f_touched_state:FnTop K mg "touched_state" Va
 f_touched_in_order:FnTop K mg "touched_in_order" Xt
 f_passage_from_empty:FnTop K mg "passage_from_empty" Xg
 f_bounds_of_state:FnTop K mg "bounds_of_state" Wa
 f_joined_sure:FnTop K mg "joined_sure" Um
 f_joined_possible:FnTop K mg "joined_possible" Wb
 f_joined:FnTop K mg "joined" Z4x
 f_joined_if_any:FnTop K mg "joined_if_any" Vb
 f_aged:FnTop K mg "aged" Zfu
 f_touched_by_rule_0:FnTop K mg "touched_by_rule_0" Xn
 f_touched_by_rule_1:FnTop K mg "touched_by_rule_1" Xo
 f_touched_bounds:FnTop K mg "touched_bounds" Wl
 f_bounds_behind:FnTop K mg "bounds_behind" Vc
 f_one_round:FnTop K mg "one_round" Qb
 f_are_same:FnTop K mg "are_same" Ow
 f_all_rounds:FnTop K mg "all_rounds" Tu
 f_has_node:FnTop K mg "has_node" Na
 f_lines_told_at:FnTop K mg "lines_told_at" Vg
 f_node_lines_told:FnTop K mg "node_lines_told" Wd
 f_edges_told:FnTop K mg "edges_told" Tz
 f_graph_told:FnTop K mg "graph_told" Sa
 f_nodes_behind:FnTop K mg "nodes_behind" Vu
 f_key_of:FnTop K mg "key_of" Z5m
 f_lines_or_none:FnTop K mg "lines_or_none" Vh
 f_moments_behind:FnTop K mg "moments_behind" Wn
 f_moments_at:FnTop K mg "moments_at" Sb
 f_all_moments:FnTop K mg "all_moments" Ut
 f_way_to:FnTop K mg "way_to" Z5n
 f_first_way:FnTop K mg "first_way" Qi
 f_class_by_bounds:FnTop K mg "class_by_bounds" We
 f_hits_in:FnTop K mg "hits_in" Z1c
 f_class_by_moments:FnTop K mg "class_by_moments" Xw
 f_is_neither:FnTop K mg "is_neither" Sc
 f_misses_again:FnTop K mg "misses_again" Vv
 f_places_of:FnTop K mg "places_of" Qp
 f_step_by:FnTop K mg "step_by" Z1f
 f_steps_from:FnTop K mg "steps_from" Se
 f_most_by_step:FnTop K mg "most_by_step" Vw
 f_most_by_steps:FnTop K mg "most_by_steps" Vj
 f_most_misses:FnTop K mg "most_misses" Uu
 f_state_at_first:FnTop K mg "state_at_first" Wo
 f_cache_call:FnTop K mg "cache_call" Sh
 f_change_locked:FnTop K mg "change_locked" Vl
 f_lock_call:FnTop K mg "lock_call" Qv
 f_unlock_call:FnTop K mg "unlock_call" Uz
 f_warm_call:FnTop K mg "warm_call" Qw
 f_graph_call:FnTop K mg "graph_call" Si
 f_state_told:FnTop K mg "state_told" Sj
 f_row_call:FnTop K mg "row_call" Nl
 f_ways_call:FnTop K mg "ways_call" Qx
 f_ages_told:FnTop K mg "ages_told" Qy
 f_rounds_held:FnTop K mg "rounds_held" Uw
 f_bounds_call:FnTop K mg "bounds_call" Ta
 f_moments_held:FnTop K mg "moments_held" Vx
 f_classes_call:FnTop K mg "classes_call" Vy
 f_exact_call:FnTop K mg "exact_call" Sf
 f_size_call:FnTop K mg "size_call" Qt
 f_states_call:FnTop K mg "states_call" Ux
 f_way_told:FnTop K mg "way_told" Nk
 f_show_call:FnTop K mg "show_call" Qr
 f_first_call:FnTop K mg "first_call" Sg
 f_most_call:FnTop K mg "most_call" Qs
 f_answer_of:FnTop K mg "answer_of" Qu
 f_numbers_begin:FnTop K mg "numbers_begin" Vk
 f_numbers_end:FnTop K mg "numbers_end" Uy
 f_answers:FnTop K mg "answers" Od
 c_LAST_LINE:Cst mg "LAST_LINE" (31)
 c_MOST_LINES:Cst mg "MOST_LINES" (3)
 c_MOST_NODES:Cst mg "MOST_NODES" (12)
 c_MOST_EDGES:Cst mg "MOST_EDGES" (24)
 c_MOST_MOMENTS:Cst mg "MOST_MOMENTS" (400)
 c_MOST_WAYS:Cst mg "MOST_WAYS" (4)
 c_OUT_OF_RANGE:Cst mg "OUT_OF_RANGE" (-7)
 c_NOT_THERE:Cst mg "NOT_THERE" (-3)
 c_NO_ROOM:Cst mg "NO_ROOM" (-9)
 c_TOO_MANY_WARM:Cst mg "TOO_MANY_WARM" (-8)
 c_MOST_WARM:Cst mg "MOST_WARM" (16)
 c_NO_GRAPH:Cst mg "NO_GRAPH" (-12)
 c_NOT_COME_TO_calls:Cst mg "NOT_COME_TO_calls" (1)
 c_TOO_MANY:Cst mg "TOO_MANY" (2)
 c_NOT_NEITHER:Cst mg "NOT_NEITHER" (1)
 c_MOST_NODES_OF_A_WAY:Cst mg "MOST_NODES_OF_A_WAY" (40)
 c_NO_LINES:Cst mg "NO_LINES" (0)
 c_ALWAYS_HIT:Cst mg "ALWAYS_HIT" (1)
 c_ALWAYS_MISS:Cst mg "ALWAYS_MISS" (2)
 c_NEITHER:Cst mg "NEITHER" (3)
 c_NOT_COME_TO_classes:Cst mg "NOT_COME_TO_classes" (4)
theorem Zlf (T:Top P w K mg):∃fa fd,mg "answers"=some (.ref fa)/\Fun K "answers" "answers" Od fa fd/\∀base:Heap,FnOk P w K mg base CX0 12 fa fd ["calls"] (Zca K):=by
 obtain⟨C,f_Cache,d_Cache,m_Cache,F_Cache,M_Cache,cl_Cache,at_Cache⟩:=T.cl_Cache.ex
 have TC:TCache K C:=⟨cl_Cache,at_Cache _ (by simp),at_Cache _ (by simp),at_Cache _ (by simp),at_Cache _ (by simp)⟩
 obtain⟨CP,f_Passage,d_Passage,m_Passage,F_Passage,M_Passage,cl_Passage,at_Passage⟩:=T.cl_Passage.ex
 have TP:TPassage K CP:=⟨cl_Passage,at_Passage _ (by simp),at_Passage _ (by simp)⟩
 obtain⟨CB,f_Bounds,d_Bounds,m_Bounds,F_Bounds,M_Bounds,cl_Bounds,at_Bounds⟩:=T.cl_Bounds.ex
 have TB:TBounds K CB:=⟨cl_Bounds,at_Bounds _ (by simp),at_Bounds _ (by simp)⟩
 obtain⟨CR,f_Rounds,d_Rounds,m_Rounds,F_Rounds,M_Rounds,cl_Rounds,at_Rounds⟩:=T.cl_Rounds.ex
 have TR:TRounds K CR:=⟨cl_Rounds,at_Rounds _ (by simp),at_Rounds _ (by simp)⟩
 obtain⟨CG,f_Graph,d_Graph,m_Graph,F_Graph,M_Graph,cl_Graph,at_Graph⟩:=T.cl_Graph.ex
 have TG:TGraph K CG:=⟨cl_Graph,at_Graph _ (by simp),at_Graph _ (by simp)⟩
 obtain⟨CM,f_Moment,d_Moment,m_Moment,F_Moment,M_Moment,cl_Moment,at_Moment⟩:=T.cl_Moment.ex
 have TM:TMoment K CM:=⟨cl_Moment,at_Moment _ (by simp),at_Moment _ (by simp),at_Moment _ (by simp),at_Moment _ (by simp),at_Moment _ (by simp)⟩
 obtain⟨CS,f_Step,d_Step,m_Step,F_Step,M_Step,cl_Step,at_Step⟩:=T.cl_Step.ex
 have TS:TStep K CS:=⟨cl_Step,at_Step _ (by simp),at_Step _ (by simp)⟩
 obtain⟨CH,f_Held,d_Held,m_Held,F_Held,M_Held,cl_Held,at_Held⟩:=T.cl_Held.ex
 have TH:THeld K CH:=⟨cl_Held,at_Held _ (by simp),at_Held _ (by simp),at_Held _ (by simp)⟩
 have LC:ClsC mg:=⟨T.c_NO_LINES,T.c_ALWAYS_HIT,T.c_ALWAYS_MISS,T.c_NEITHER,T.c_NOT_COME_TO_classes⟩
 obtain⟨fa,fda,ma,Fa⟩:=T.f_answers.ex
 refine⟨fa,fda,ma,Fa,λbase=>?_⟩
 have k_share_set:#[51]:=knx T.f_share_set λf fd F=>Z7o F TC
 have k_room_for:#[40]:=knx T.f_room_for λf fd F=>Za6 F TC T.blt k_share_set
 have c_Cache:#[46]:=Z9n m_Cache F_Cache M_Cache (kbd F_Cache) (Z4u F_Cache TC)
 have c_Passage:#[65]:=Z9n m_Passage F_Passage M_Passage (kbd F_Passage) (Z0l F_Passage TP)
 have k_are_lines:#[41]:=knx T.f_are_lines λf fd F=>Z7q F T.blt T.c_LAST_LINE
 have k_empty_state:#[66]:=knx T.f_empty_state λf fd F=>Z1u F TC
 have k_is_hit:#[43]:=knx T.f_is_hit λf fd F=>Zfr F TC
 have k_touched_state:#[52]:=knx T.f_touched_state λf fd F=>Mo F TC T.blt k_room_for
 have k_touched_in_order:#[53]:=knx T.f_touched_in_order λf fd F=>Qa F k_is_hit k_touched_state c_Passage
 have k_passage_from_empty:#[49]:=knx T.f_passage_from_empty λf fd F=>Tr F k_empty_state k_touched_in_order
 have c_Bounds:#[44]:=Z9n m_Bounds F_Bounds M_Bounds (kbd F_Bounds) (Z1w F_Bounds TB)
 have k_bounds_of_state:#[74]:=knx T.f_bounds_of_state λf fd F=>Pp F T.blt c_Bounds
 have k_joined_sure:#[67]:=knx T.f_joined_sure λf fd F=>Z1y F T.blt
 have k_joined_possible:#[68]:=knx T.f_joined_possible λf fd F=>Pr F T.blt
 have k_joined:#[69]:=knx T.f_joined λf fd F=>Zfz F TB c_Bounds k_joined_sure k_joined_possible
 have k_joined_if_any:#[55]:=knx T.f_joined_if_any λf fd F=>Mq F k_joined
 have k_aged:#[54]:=knx T.f_aged λf fd F=>Zjv F k_room_for k_share_set
 have k_touched_by_rule_0:#[70]:=knx T.f_touched_by_rule_0 λf fd F=>Rc F TB c_Bounds k_room_for k_aged
 have k_touched_by_rule_1:#[71]:=knx T.f_touched_by_rule_1 λf fd F=>Rf F T.blt TB c_Bounds k_room_for k_aged
 have k_touched_bounds:#[72]:=knx T.f_touched_bounds λf fd F=>Oz F TC k_room_for k_touched_by_rule_0 k_touched_by_rule_1
 have k_bounds_behind:#[73]:=knx T.f_bounds_behind λf fd F=>Ms F k_joined_if_any k_touched_bounds
 have k_one_round:#[75]:=knx T.f_one_round λf fd F=>Z7x F T.blt TG k_bounds_behind k_joined_if_any
 have k_are_same:#[76]:=knx T.f_are_same λf fd F=>Za9 F TB
 have c_Rounds:#[77]:=Z9n m_Rounds F_Rounds M_Rounds (kbd F_Rounds) (Z2a F_Rounds TR)
 have k_all_rounds:#[90]:=knx T.f_all_rounds λf fd F=>Z5a F T.blt TG k_bounds_of_state k_one_round k_are_same c_Rounds
 have c_Graph:#[56]:=Z9n m_Graph F_Graph M_Graph (kbd F_Graph) (Z5c F_Graph TG)
 have k_has_node:#[47]:=knx T.f_has_node λf fd F=>Zab F T.blt TG
 have k_lines_told_at:#[78]:=knx T.f_lines_told_at λf fd F=>Mu F T.blt T.c_MOST_LINES k_are_lines
 have k_node_lines_told:#[79]:=knx T.f_node_lines_told λf fd F=>Pu F T.blt T.c_MOST_NODES k_lines_told_at
 have k_edges_told:#[80]:=knx T.f_edges_told λf fd F=>Z5e F T.blt T.c_MOST_EDGES
 have k_graph_told:#[89]:=knx T.f_graph_told λf fd F=>Z5g F T.blt k_node_lines_told k_edges_told c_Graph
 have k_nodes_behind:#[81]:=knx T.f_nodes_behind λf fd F=>Z0z F TG
 have c_Moment:#[57]:=Z9n m_Moment F_Moment M_Moment (kbd F_Moment) (Z2d F_Moment TM)
 have k_key_of:#[48]:=knx T.f_key_of λf fd F=>Zgh F TM
 have k_lines_or_none:#[58]:=knx T.f_lines_or_none λf fd F=>Mx F T.blt TG
 have k_moments_behind:#[59]:=knx T.f_moments_behind λf fd F=>Ni F TM k_touched_state k_nodes_behind c_Moment
 have k_moments_at:#[45]:=knx T.f_moments_at λf fd F=>Z5p F TM
 have k_all_moments:#[92]:=knx T.f_all_moments λf fd F=>Z2g F T.blt TM c_Moment k_key_of k_lines_or_none k_moments_behind T.c_MOST_MOMENTS
 have k_way_to:#[82]:=knx T.f_way_to λf fd F=>Zgj F T.blt T.rev TM
 have k_first_way:#[95]:=knx T.f_first_way λf fd F=>Z8l F TM TG k_moments_at k_is_hit k_way_to
 have k_class_by_bounds:#[93]:=knx T.f_class_by_bounds λf fd F=>Oc F T.blt TC TB LC
 have k_hits_in:#[60]:=knx T.f_hits_in λf fd F=>Zdg F TM k_is_hit
 have k_class_by_moments:#[61]:=knx T.f_class_by_moments λf fd F=>Qn F T.blt TG k_moments_at k_hits_in LC
 have k_is_neither:#[94]:=knx T.f_is_neither λf fd F=>Z5r F k_class_by_moments LC
 have k_misses_again:#[97]:=knx T.f_misses_again λf fd F=>Z1e F T.blt TM TG k_moments_at k_hits_in
 have c_Step:#[83]:=Z9n m_Step F_Step M_Step (kbd F_Step) (Z8o F_Step TS)
 have k_places_of:#[86]:=knx T.f_places_of λf fd F=>Z8q F T.blt k_key_of
 have k_step_by:#[84]:=knx T.f_step_by λf fd F=>Zdj F TM k_moments_behind k_is_hit k_key_of c_Step
 have k_steps_from:#[87]:=knx T.f_steps_from λf fd F=>Z5t F TM k_lines_or_none k_step_by
 have k_most_by_step:#[85]:=knx T.f_most_by_step λf fd F=>Z1i F T.blt TS
 have k_most_by_steps:#[88]:=knx T.f_most_by_steps λf fd F=>Mz F T.blt k_most_by_step
 have k_most_misses:#[98]:=knx T.f_most_misses λf fd F=>Z2i F T.blt k_places_of k_steps_from k_most_by_steps
 have c_Held:#[99]:=Z9n m_Held F_Held M_Held (kbd F_Held) (Z8t F_Held TH c_Cache c_Graph)
 have k_state_at_first:#[50]:=knx T.f_state_at_first λf fd F=>Nn F TH TP k_passage_from_empty
 have k_cache_call:Kn P w K mg base "cache_call" 3 ["held","numbers"] (spC CH C CG (some 3) Z1j):=knx T.f_cache_call λf fd F=>Z5v F TH c_Cache T.c_MOST_WAYS T.c_OUT_OF_RANGE
 have k_change_locked:#[62]:=knx T.f_change_locked λf fd F=>Jb F T.blt TH TC c_Cache
 have k_lock_call:Kn P w K mg base "lock_call" 4 ["held","numbers"] (spC CH C CG (some 1) (mk1 .lock)):=knx T.f_lock_call λf fd F=>Z8v F TH TC k_are_lines k_room_for k_change_locked T.c_NOT_THERE T.c_NO_ROOM
 have k_unlock_call:Kn P w K mg base "unlock_call" 4 ["held","numbers"] (spC CH C CG (some 1) (mk1 .unlock)):=knx T.f_unlock_call λf fd F=>Z2k F TH TC k_change_locked T.c_NOT_THERE
 have k_warm_call:Kn P w K mg base "warm_call" 6 ["held","numbers"] (spC CH C CG none .warm):=knx T.f_warm_call λf fd F=>Z8x F T.blt TH TP k_are_lines k_passage_from_empty T.c_NOT_THERE T.c_TOO_MANY_WARM T.c_MOST_WARM
 have k_graph_call:Kn P w K mg base "graph_call" 5 ["held","numbers"] (spC CH C CG none .graph):=knx T.f_graph_call λf fd F=>Z5y F T.blt TH TG k_graph_told T.c_NO_GRAPH
 have k_state_told:#[63]:=knx T.f_state_told λf fd F=>Z6a F T.blt
 have k_row_call:Kn P w K mg base "row_call" 7 ["held","numbers"] (spC CH C CG none .row):=knx T.f_row_call λf fd F=>Zas F T.blt TH TP k_are_lines k_state_at_first k_touched_in_order k_state_told T.c_NOT_THERE
 have k_ways_call:Kn P w K mg base "ways_call" 6 ["held","numbers"] (spC CH C CG none .ways):=knx T.f_ways_call λf fd F=>Z8z F T.blt TH TC TP k_are_lines c_Cache k_passage_from_empty T.c_NOT_THERE T.c_MOST_WAYS
 have k_ages_told:#[91]:=knx T.f_ages_told λf fd F=>Z9b F T.blt
 have k_rounds_held:#[64]:=knx T.f_rounds_held λf fd F=>Z2m F TH k_state_at_first k_all_rounds
 have k_bounds_call:Kn P w K mg base "bounds_call" 10 ["held","numbers"] (spC CH C CG (some 1) (mk1 .bounds)):=knx T.f_bounds_call λf fd F=>Z2o F TH TB TR k_has_node k_rounds_held k_ages_told T.c_NOT_THERE T.c_NOT_COME_TO_calls
 have k_moments_held:#[42]:=knx T.f_moments_held λf fd F=>Z1l F TH k_state_at_first k_all_moments
 have k_classes_call:Kn P w K mg base "classes_call" 10 ["held","numbers"] (spC CH C CG (some 0) (λ_=>.classes)):=knx T.f_classes_call λf fd F=>Z1n F T.blt TH TG TR k_rounds_held k_class_by_bounds
 have k_exact_call:Kn P w K mg base "exact_call" 8 ["held","numbers"] (spC CH C CG (some 0) (λ_=>.exact)):=knx T.f_exact_call λf fd F=>Z6c F T.blt TH TG k_moments_held k_class_by_moments T.c_TOO_MANY
 have k_size_call:Kn P w K mg base "size_call" 1 ["held","numbers"] (spC CH C CG (some 0) (λ_=>.size)):=knx T.f_size_call λf fd F=>Z9d F T.blt TH TC TG
 have k_states_call:Kn P w K mg base "states_call" 8 ["held","numbers"] (spC CH C CG (some 1) (mk1 .states)):=knx T.f_states_call λf fd F=>Z2q F T.blt TH TM k_has_node k_moments_held k_moments_at k_state_told T.c_NOT_THERE T.c_TOO_MANY
 have k_way_told:#[96]:=knx T.f_way_told λf fd F=>Zaw F T.blt
 have k_show_call:Kn P w K mg base "show_call" 8 ["held","numbers"] (spC CH C CG (some 1) (mk1 .show_)):=knx T.f_show_call λf fd F=>Z9g F TH k_has_node k_moments_held k_is_neither k_first_way k_way_told T.c_NOT_THERE T.c_TOO_MANY T.c_NOT_NEITHER
 have k_first_call:Kn P w K mg base "first_call" 8 ["held","numbers"] (spC CH C CG (some 1) (mk1 .first)):=knx T.f_first_call λf fd F=>Z6e F TH k_has_node k_moments_held k_misses_again T.c_NOT_THERE T.c_TOO_MANY
 have k_most_call:Kn P w K mg base "most_call" 8 ["held","numbers"] (spC CH C CG (some 1) (mk1 .most)):=knx T.f_most_call λf fd F=>Z9i F TH k_moments_held k_most_misses T.c_OUT_OF_RANGE T.c_TOO_MANY T.c_MOST_NODES_OF_A_WAY
 have tcalls:TCalls P w K mg base CH C CG:=by
  obtain⟨ct,fs,e1,e2,e3⟩:=T.calls.ex
  refine⟨ct,fs,e1,e2,λj n mk ht=>?_⟩
  have hj:j<15:=(gse.mp ht).1
  have hjs:=lt15 hj
  rcases hjs with e | e | e | e | e | e | e | e | e | e | e | e | e | e | e <;> subst e <;> cases ht
  ·exact Yx (by decide) k_cache_call (e3 0 "cache_call" rfl)
  ·exact Yx (by decide) k_lock_call (e3 1 "lock_call" rfl)
  ·exact Yx (by decide) k_unlock_call (e3 2 "unlock_call" rfl)
  ·exact Yx (by decide) k_warm_call (e3 3 "warm_call" rfl)
  ·exact Yx (by decide) k_graph_call (e3 4 "graph_call" rfl)
  ·exact Yx (by decide) k_row_call (e3 5 "row_call" rfl)
  ·exact Yx (by decide) k_ways_call (e3 6 "ways_call" rfl)
  ·exact Yx (by decide) k_bounds_call (e3 7 "bounds_call" rfl)
  ·exact Yx (by decide) k_classes_call (e3 8 "classes_call" rfl)
  ·exact Yx (by decide) k_exact_call (e3 9 "exact_call" rfl)
  ·exact Yx (by decide) k_states_call (e3 10 "states_call" rfl)
  ·exact Yx (by decide) k_show_call (e3 11 "show_call" rfl)
  ·exact Yx (by decide) k_first_call (e3 12 "first_call" rfl)
  ·exact Yx (by decide) k_most_call (e3 13 "most_call" rfl)
  ·exact Yx (by decide) k_size_call (e3 14 "size_call" rfl)
 have k_answer_of:#[102]:=knx T.f_answer_of λf fd F=>Z9l F tcalls
 have k_numbers_begin:#[101]:=knx T.f_numbers_begin λf fd F=>Jd F T.lst
 have k_numbers_end:#[100]:=knx T.f_numbers_end λf fd F=>Z2s F T.lst T.num
 exact Zdn Fa T.blt c_Held k_numbers_end k_numbers_begin k_answer_of
end
noncomputable section
variable {P:Program}{w:World}{K:W.Frag}{h:Heap}{mg:Str->Option Value}
theorem Zlg {ct:Addr}{od:Option Addr}{n:Nat}{sl:Array (Option Value)}{t3 t4 t5 t6:Tok}(X:K.In h)(G:h.Ns mainGlobals mg)(a:W.nsIn K mainGlobals "CALLS_WITH_A_LIST"=some (some (.ref ct)))(l:K.lookup ct=some ⟨.type "tuple",od,.seq #[.int 3 t3,.int 4 t4,.int 5 t5,.int 6 t6] n,sl⟩):TLst K mg :=
 ⟨ct,W.mg_of X G a,λH=>.inr ⟨_,_,n,l,rfl,rfl,(by show 4<=sizeLine;decide),.cons ⟨_,rfl⟩ (.cons ⟨_,rfl⟩ (.cons ⟨_,rfl⟩ (.cons ⟨_,rfl⟩ .nil)))⟩⟩
theorem Zi6 {ct f0 f1 f2 f3 f4 f5 f6 f7 f8 f9 f10 f11 f12 f13 f14:Addr}{od:Option Addr}{n:Nat}{sl:Array (Option Value)}(X:K.In h)(G:h.Ns mainGlobals mg)(a:W.nsIn K mainGlobals "CALLS"=some (some (.ref ct)))(l:K.lookup ct=some ⟨.type "tuple",od,.seq #[.ref f0,.ref f1,.ref f2,.ref f3,.ref f4,.ref f5,.ref f6,.ref f7,.ref f8,.ref f9,.ref f10,.ref f11,.ref f12,.ref f13,.ref f14] n,sl⟩)
  (a0:W.nsIn K mainGlobals "cache_call"=some (some (.ref f0))) (a1:W.nsIn K mainGlobals "lock_call"=some (some (.ref f1))) (a2:W.nsIn K mainGlobals "unlock_call"=some (some (.ref f2))) (a3:W.nsIn K mainGlobals "warm_call"=some (some (.ref f3))) (a4:W.nsIn K mainGlobals "graph_call"=some (some (.ref f4))) (a5:W.nsIn K mainGlobals "row_call"=some (some (.ref f5))) (a6:W.nsIn K mainGlobals "ways_call"=some (some (.ref f6))) (a7:W.nsIn K mainGlobals "bounds_call"=some (some (.ref f7))) (a8:W.nsIn K mainGlobals "classes_call"=some (some (.ref f8))) (a9:W.nsIn K mainGlobals "exact_call"=some (some (.ref f9))) (a10:W.nsIn K mainGlobals "states_call"=some (some (.ref f10))) (a11:W.nsIn K mainGlobals "show_call"=some (some (.ref f11))) (a12:W.nsIn K mainGlobals "first_call"=some (some (.ref f12))) (a13:W.nsIn K mainGlobals "most_call"=some (some (.ref f13))) (a14:W.nsIn K mainGlobals "size_call"=some (some (.ref f14))):CallsTop K mg:=by
 refine⟨ct,[f0,f1,f2,f3,f4,f5,f6,f7,f8,f9,f10,f11,f12,f13,f14],W.mg_of X G a,λH=>.inr ⟨_,_,n,l,rfl,rfl,(by show 15<=sizeLine;decide),.cons rfl (.cons rfl (.cons rfl (.cons rfl (.cons rfl (.cons rfl (.cons rfl (.cons rfl (.cons rfl (.cons rfl (.cons rfl (.cons rfl (.cons rfl (.cons rfl (.cons rfl (.nil)))))))))))))))⟩,λj x hx=>?_⟩
 have hj:j<15:=(gse.mp hx).1
 have hjs:=lt15 hj
 rcases hjs with e | e | e | e | e | e | e | e | e | e | e | e | e | e | e <;> subst e <;> (have hx':=Option.some.inj hx;subst hx')
 ·exact⟨f0,rfl,W.mg_of X G a0⟩
 ·exact⟨f1,rfl,W.mg_of X G a1⟩
 ·exact⟨f2,rfl,W.mg_of X G a2⟩
 ·exact⟨f3,rfl,W.mg_of X G a3⟩
 ·exact⟨f4,rfl,W.mg_of X G a4⟩
 ·exact⟨f5,rfl,W.mg_of X G a5⟩
 ·exact⟨f6,rfl,W.mg_of X G a6⟩
 ·exact⟨f7,rfl,W.mg_of X G a7⟩
 ·exact⟨f8,rfl,W.mg_of X G a8⟩
 ·exact⟨f9,rfl,W.mg_of X G a9⟩
 ·exact⟨f10,rfl,W.mg_of X G a10⟩
 ·exact⟨f11,rfl,W.mg_of X G a11⟩
 ·exact⟨f12,rfl,W.mg_of X G a12⟩
 ·exact⟨f13,rfl,W.mg_of X G a13⟩
 ·exact⟨f14,rfl,W.mg_of X G a14⟩
theorem Zlh {d:Addr}{ep:Nat}{h0 h1 h2 h3 h4 h5 h6 h7 h8 h9 h10:Int}{t0 u0 t1 u1 t2 u2 t3 u3 t4 u4 t5 u5 t6 u6 t7 u7 t8 u8 t9 u9 t10 u10:Tok}(X:K.In h)(G:h.Ns mainGlobals mg)(a:W.nsIn K mainGlobals "NUMBERS"=some (some (.ref d)))
  (l:K.lookup d=some ⟨.type "dict",none,.dict #[⟨h0,.int 0 t0,.int 3 u0⟩,⟨h1,.int 1 t1,.int 1 u1⟩,⟨h2,.int 2 t2,.int 1 u2⟩,⟨h3,.int 7 t3,.int 1 u3⟩,⟨h4,.int 8 t4,.int 0 u4⟩,⟨h5,.int 9 t5,.int 0 u5⟩,⟨h6,.int 10 t6,.int 1 u6⟩,⟨h7,.int 11 t7,.int 1 u7⟩,⟨h8,.int 12 t8,.int 1 u8⟩,⟨h9,.int 13 t9,.int 1 u9⟩,⟨h10,.int 14 t10,.int 0 u10⟩] ep,#[]⟩) (e0:h0=hashInt 0) (e1:h1=hashInt 1) (e2:h2=hashInt 2) (e3:h3=hashInt 7) (e4:h4=hashInt 8) (e5:h5=hashInt 9) (e6:h6=hashInt 10) (e7:h7=hashInt 11) (e8:h8=hashInt 12) (e9:h9=hashInt 13) (e10:h10=hashInt 14):TNum P w K mg:=by
 refine⟨d,_,_,ep,W.mg_of X G a,l,⟨rfl,rfl,rfl⟩,rfl,λe he=>?_,λj m mk ht=>?_⟩
 ·have he':=Array.mem_toList_iff.mpr he
  simp only[List.mem_cons,not_mem_nil,or_false]at he'
  rcases he' with e | e | e | e | e | e | e | e | e | e | e <;> subst e
  ·exact⟨0,rfl,e0⟩
  ·exact⟨1,rfl,e1⟩
  ·exact⟨2,rfl,e2⟩
  ·exact⟨7,rfl,e3⟩
  ·exact⟨8,rfl,e4⟩
  ·exact⟨9,rfl,e5⟩
  ·exact⟨10,rfl,e6⟩
  ·exact⟨11,rfl,e7⟩
  ·exact⟨12,rfl,e8⟩
  ·exact⟨13,rfl,e9⟩
  ·exact⟨14,rfl,e10⟩
 ·have hj:j<15:=(gse.mp ht).1
  have hjs:=lt15 hj
  rcases hjs with e | e | e | e | e | e | e | e | e | e | e | e | e | e | e <;> subst e <;> cases ht
  all_goals exact⟨_,rfl,_,rfl⟩
theorem Zli {fa:Addr}(X:K.In h)(G:h.Ns mainGlobals mg)(hfa:mg "answers"=some (.ref fa))(T:Top P w K mg):∃fd:FuncData,(∀(s:Shared) (us:List Value),us.length=(["calls"]:List Str).length->BindsTo s fd ⟨us,[]⟩ ((["calls"]:List Str).zip us))/\∀base:Heap,K.In base->base.Ns mainGlobals mg->FnOk P w K mg base CX0 12 fa fd ["calls"] (Zca K):=by
 obtain⟨fb,fd,e1,F,ok⟩:=Zlf T
 rw[hfa]at e1
 cases e1
 obtain⟨oc,od,kV,doc,pm,an,cdv,ct,osl,rfl,lk,hcd⟩:=F.ex
 exact⟨_,λs us hu=>match us,hu with | [_],_=>.of_eq rfl,λbase _ _=>ok base⟩
end
end Sl
end
namespace PySem.W.Fast
theorem tw12484973887186347284:True:=⟨⟩
theorem tw14715279101824683788:True:=⟨⟩
theorem tw3415908847102702744:True:=⟨⟩
theorem tw18315900808279708153:True:=⟨⟩
theorem tw215192599398482180:True:=⟨⟩
theorem tw17710298985229512953:True:=⟨⟩
theorem tw11030938354210882229:True:=⟨⟩
theorem tw5979532420449810694:True:=⟨⟩
theorem tw1400177036976270575:True:=⟨⟩
theorem tw4186355870959183187:True:=⟨⟩
theorem tw3541448547546802481:True:=⟨⟩
theorem tw7986352140515476460:True:=⟨⟩
theorem tw10114276159788604070:True:=⟨⟩
theorem tw4302105319790752061:True:=⟨⟩
theorem tw7678009199438771625:True:=⟨⟩
theorem tw4561187754919322823:True:=⟨⟩
theorem tw5880186587184560808:True:=⟨⟩
theorem tw4543487202581962282:True:=⟨⟩
theorem tw8084300052760010091:True:=⟨⟩
theorem tw5351772421514977384:True:=⟨⟩
theorem tw10104223537136167211:True:=⟨⟩
theorem tw2211748964407924169:True:=⟨⟩
theorem tw6594608860000575089:True:=⟨⟩
theorem tw8800769233418330360:True:=⟨⟩
theorem tw13151331235511782511:True:=⟨⟩
theorem tw13103760178928744067:True:=⟨⟩
theorem tw9787843557011058735:True:=⟨⟩
theorem tw13986974500687552112:True:=⟨⟩
theorem tw14598626599256151286:True:=⟨⟩
theorem tw5145733433942885620:True:=⟨⟩
theorem tw9812416051111681001:True:=⟨⟩
theorem tw13342167079199136580:True:=⟨⟩
theorem tw7817623575151128962:True:=⟨⟩
theorem tw18363338397576133202:True:=⟨⟩
theorem tw14473241651607957684:True:=⟨⟩
theorem tw8546921988436211141:True:=⟨⟩
theorem tw7803758926613663727:True:=⟨⟩
theorem tw5578275133216156930:True:=⟨⟩
theorem tw3554044334998820189:True:=⟨⟩
theorem tw7664935613923337809:True:=⟨⟩
theorem tw8103849702234631612:True:=⟨⟩
theorem tw18127668920870919359:True:=⟨⟩
theorem tw17024522089937205362:True:=⟨⟩
theorem tw176300960551600270:True:=⟨⟩
theorem tw3266048080529624238:True:=⟨⟩
theorem tw16149684493226279937:True:=⟨⟩
theorem tw4826157085859541434:True:=⟨⟩
theorem tw8243990828195640291:True:=⟨⟩
theorem tw15297637417746610197:True:=⟨⟩
theorem tw9235380748453073437:True:=⟨⟩
theorem tw211019805925406229:True:=⟨⟩
theorem tw1812159041275419085:True:=⟨⟩
theorem tw8906621975332391988:True:=⟨⟩
theorem tw10934442136776007956:True:=⟨⟩
theorem tw11695574374423635591:True:=⟨⟩
theorem tw5281851867854809985:True:=⟨⟩
theorem tw7095797149518192189:True:=⟨⟩
theorem tw14870958263126255558:True:=⟨⟩
theorem tw531657671527148872:True:=⟨⟩
theorem tw17200866887786694572:True:=⟨⟩
theorem tw17688532024552663280:True:=⟨⟩
theorem tw2928700631170930017:True:=⟨⟩
theorem tw2407438040490465430:True:=⟨⟩
theorem tw8876999160963042735:True:=⟨⟩
theorem tw4761579900000269710:True:=⟨⟩
theorem tw5029855897379494074:True:=⟨⟩
theorem tw12373442609944152113:True:=⟨⟩
theorem tw3500486386708335669:True:=⟨⟩
theorem tw10318852924822560042:True:=⟨⟩
theorem tw3738283453794938574:True:=⟨⟩
theorem tw13208810214665983072:True:=⟨⟩
theorem tw14972718613759566535:True:=⟨⟩
theorem tw17053129269238770847:True:=⟨⟩
theorem tw11164375476294155649:True:=⟨⟩
theorem tw16067381085753106971:True:=⟨⟩
theorem tw16053018946782646832:True:=⟨⟩
theorem tw7181639202118537853:True:=⟨⟩
theorem tw5998653909891578783:True:=⟨⟩
theorem tw7550004736049622624:True:=⟨⟩
theorem tw3715384834546119551:True:=⟨⟩
theorem tw1348202662670613120:True:=⟨⟩
theorem tw14746274111777274403:True:=⟨⟩
theorem tw1134689310340743202:True:=⟨⟩
theorem tw4087214145887934347:True:=⟨⟩
theorem tw3751822520920907119:True:=⟨⟩
theorem tw3664407506428336134:True:=⟨⟩
theorem tw15293146242874504594:True:=⟨⟩
theorem tw2658937952604031424:True:=⟨⟩
theorem tw1222732554085030481:True:=⟨⟩
theorem tw14779161049537318959:True:=⟨⟩
theorem tw7761144243949348813:True:=⟨⟩
theorem tw17065455112349485209:True:=⟨⟩
theorem tw16635559962720076546:True:=⟨⟩
theorem tw16012956307246454409:True:=⟨⟩
theorem tw1728513163397263793:True:=⟨⟩
theorem tw7880492765929946152:True:=⟨⟩
theorem tw15013810149207421871:True:=⟨⟩
theorem tw159157306653485766:True:=⟨⟩
theorem tw2069619253152502594:True:=⟨⟩
theorem tw16847281828330086765:True:=⟨⟩
theorem tw8129867214012211938:True:=⟨⟩
theorem tw4019838432568946231:True:=⟨⟩
theorem tw17098962049222169925:True:=⟨⟩
theorem tw6804420095707959359:True:=⟨⟩
theorem tw7593088624331182234:True:=⟨⟩
theorem tw12721273875351579876:True:=⟨⟩
theorem tw566193908381928717:True:=⟨⟩
theorem tw495915263410145743:True:=⟨⟩
theorem tw15326246221985894747:True:=⟨⟩
theorem tw13688669800478285391:True:=⟨⟩
theorem tw7010738056687681326:True:=⟨⟩
theorem tw10466871840089533654:True:=⟨⟩
theorem tw10069021628683319928:True:=⟨⟩
theorem tw8264304798071440080:True:=⟨⟩
theorem tw11228966376335239854:True:=⟨⟩
theorem tw2018836936277907961:True:=⟨⟩
theorem tw9915288279118889874:True:=⟨⟩
theorem tw9638244508417548605:True:=⟨⟩
theorem tw4090241916361707055:True:=⟨⟩
theorem tw880171521796697170:True:=⟨⟩
theorem tw16354626342780641199:True:=⟨⟩
theorem tw6125200872937632719:True:=⟨⟩
theorem tw1540755552560143756:True:=⟨⟩
theorem tw13808387662965157998:True:=⟨⟩
theorem tw13962827482894999756:True:=⟨⟩
theorem tw18437181267753286089:True:=⟨⟩
theorem tw5682727350288214386:True:=⟨⟩
theorem tw17363515917471661814:True:=⟨⟩
theorem tw5022506570522178968:True:=⟨⟩
theorem tw15317675275685635483:True:=⟨⟩
theorem tw3747937781970389832:True:=⟨⟩
theorem tw993502630844635368:True:=⟨⟩
theorem tw7801879511723845468:True:=⟨⟩
theorem tw3306807981749884039:True:=⟨⟩
theorem tw8756600602919743018:True:=⟨⟩
theorem tw10262135040574650823:True:=⟨⟩
theorem tw10102862990210117550:True:=⟨⟩
theorem tw16334807695229524214:True:=⟨⟩
theorem tw4168863291497770963:True:=⟨⟩
theorem tw16664354273623520483:True:=⟨⟩
theorem tw16027564106793320575:True:=⟨⟩
theorem tw9412603908393464314:True:=⟨⟩
theorem tw2150593102425574036:True:=⟨⟩
theorem tw14865435469980255221:True:=⟨⟩
theorem tw13422751110184453066:True:=⟨⟩
theorem tw5408459173963222345:True:=⟨⟩
theorem tw13738046502497697613:True:=⟨⟩
theorem tw7350771629271282549:True:=⟨⟩
theorem tw2201250864586244919:True:=⟨⟩
theorem tw2831517407073407592:True:=⟨⟩
theorem tw18301373210236503101:True:=⟨⟩
theorem tw14868109084642566641:True:=⟨⟩
theorem tw17642352942406249361:True:=⟨⟩
theorem tw17870494585359737597:True:=⟨⟩
theorem tw16388271522191284208:True:=⟨⟩
theorem tw12400621888591006523:True:=⟨⟩
theorem tw6571186470657574302:True:=⟨⟩
theorem tw9601460253640029772:True:=⟨⟩
theorem tw5188022609943291006:True:=⟨⟩
theorem tw18239372300088985068:True:=⟨⟩
theorem tw15013119005964585506:True:=⟨⟩
theorem tw17879610247631572849:True:=⟨⟩
theorem tw15590576805837758717:True:=⟨⟩
theorem tw1753566481495670687:True:=⟨⟩
theorem tw14787215454904235906:True:=⟨⟩
theorem tw7475020178354759793:True:=⟨⟩
theorem tw5306423035257396970:True:=⟨⟩
theorem tw8480526230057471882:True:=⟨⟩
theorem tw2883508718146663732:True:=⟨⟩
theorem tw7476764633917091954:True:=⟨⟩
theorem tw17308800124988898883:True:=⟨⟩
theorem tw16142260394886067778:True:=⟨⟩
theorem tw10046129139109682145:True:=⟨⟩
theorem tw11045166038792753650:True:=⟨⟩
theorem tw15186227684773479699:True:=⟨⟩
theorem tw16845675579530537110:True:=⟨⟩
theorem tw5506301298174320482:True:=⟨⟩
theorem tw1900970763302898877:True:=⟨⟩
theorem tw8229056013466942330:True:=⟨⟩
theorem tw349643292416682085:True:=⟨⟩
theorem tw410825388258943309:True:=⟨⟩
theorem tw11578424415502187780:True:=⟨⟩
theorem tw10404313516327925998:True:=⟨⟩
theorem tw5792815650224042557:True:=⟨⟩
theorem tw6883011988883396886:True:=⟨⟩
theorem tw13259528227263374647:True:=⟨⟩
theorem tw6362114026222377096:True:=⟨⟩
theorem tw8053957509289517081:True:=⟨⟩
theorem tw15912986997586288623:True:=⟨⟩
theorem tw12785986711274226668:True:=⟨⟩
theorem tw3001296325565862691:True:=⟨⟩
theorem tw18129148765724372771:True:=⟨⟩
theorem tw17763974840443213338:True:=⟨⟩
theorem tw16395817033824624699:True:=⟨⟩
theorem tw12510937946563756087:True:=⟨⟩
theorem tw2534205098555477633:True:=⟨⟩
theorem tw10853330319167535558:True:=⟨⟩
theorem tw17258761414230367511:True:=⟨⟩
theorem tw3835190669078998516:True:=⟨⟩
theorem tw6823579226603764109:True:=⟨⟩
theorem tw1775460799557929976:True:=⟨⟩
theorem tw11385938150205702430:True:=⟨⟩
theorem tw898831205521740406:True:=⟨⟩
theorem tw10409883502253894647:True:=⟨⟩
theorem tw18374488288198047730:True:=⟨⟩
theorem tw16367093706880442551:True:=⟨⟩
theorem tw16235562737456975465:True:=⟨⟩
theorem tw8606575626129059215:True:=⟨⟩
theorem tw2774843574667697344:True:=⟨⟩
theorem tw17485564153369741611:True:=⟨⟩
theorem tw8504687998357699272:True:=⟨⟩
theorem tw9163278355951522152:True:=⟨⟩
theorem tw1237801546003895235:True:=⟨⟩
theorem tw4418725464922130568:True:=⟨⟩
theorem tw10165203747622650171:True:=⟨⟩
theorem tw4129092938985132581:True:=⟨⟩
theorem tw6635394507039610186:True:=⟨⟩
theorem tw16649222324043517738:True:=⟨⟩
theorem tw17684995065103981258:True:=⟨⟩
theorem tw17115091881021799965:True:=⟨⟩
theorem tw2161328745111068579:True:=⟨⟩
theorem tw11024089801861838244:True:=⟨⟩
theorem tw15945539099945489954:True:=⟨⟩
theorem tw15064481293266385360:True:=⟨⟩
theorem tw16983935091461821520:True:=⟨⟩
theorem tw18188692214571674187:True:=⟨⟩
theorem tw227755711795007285:True:=⟨⟩
theorem tw7232324028670063129:True:=⟨⟩
theorem tw10883953276244616587:True:=⟨⟩
theorem tw17143562191763254543:True:=⟨⟩
theorem tw6468048250902774242:True:=⟨⟩
theorem tw1278243434595750623:True:=⟨⟩
theorem tw2900466600130505213:True:=⟨⟩
theorem tw13725557844165356434:True:=⟨⟩
theorem tw2108320953429201286:True:=⟨⟩
theorem tw17662356278267356154:True:=⟨⟩
theorem tw2275209477961964996:True:=⟨⟩
theorem tw2706107748663464748:True:=⟨⟩
theorem tw17861167060399083960:True:=⟨⟩
theorem tw15994634580994538128:True:=⟨⟩
theorem tw9536366054382259930:True:=⟨⟩
theorem tw18156133907280187683:True:=⟨⟩
theorem tw4457239045382373170:True:=⟨⟩
theorem tw3769332791355984029:True:=⟨⟩
theorem tw4615716541180385021:True:=⟨⟩
theorem tw13583046074770862101:True:=⟨⟩
theorem tw1128782754180982119:True:=⟨⟩
theorem tw4684506769692159632:True:=⟨⟩
theorem tw8898336706344006050:True:=⟨⟩
theorem tw16975597676779639612:True:=⟨⟩
theorem tw2814857461925419016:True:=⟨⟩
theorem tw9398507250505347773:True:=⟨⟩
theorem tw4229023638045239881:True:=⟨⟩
theorem tw4925335275386815152:True:=⟨⟩
theorem tw468593080034698933:True:=⟨⟩
theorem tw6687870885629744818:True:=⟨⟩
theorem tw16450631344696989974:True:=⟨⟩
theorem tw13593213468867352693:True:=⟨⟩
theorem tw2978935490228592099:True:=⟨⟩
theorem tw14300716429501675911:True:=⟨⟩
theorem tw11028076917495050412:True:=⟨⟩
theorem tw15174174541016124340:True:=⟨⟩
theorem tw6650637488372365791:True:=⟨⟩
theorem tw10565196237671816655:True:=⟨⟩
theorem tw16692688266465080208:True:=⟨⟩
theorem tw15034275752605718125:True:=⟨⟩
theorem tw9906423878660428274:True:=⟨⟩
theorem tw4986538379379039029:True:=⟨⟩
theorem tw9604458164261549690:True:=⟨⟩
theorem tw6967584746690095057:True:=⟨⟩
theorem tw12297794247639316211:True:=⟨⟩
theorem tw7528037761758811265:True:=⟨⟩
theorem tw718624984943034639:True:=⟨⟩
theorem tw15568665141310121421:True:=⟨⟩
theorem tw17771754657171224616:True:=⟨⟩
theorem tw14225599513476886688:True:=⟨⟩
theorem tw12998401607142431131:True:=⟨⟩
theorem tw17927751708726559124:True:=⟨⟩
theorem tw17485347531889199393:True:=⟨⟩
theorem tw10337751367908108604:True:=⟨⟩
theorem tw16792221592742082532:True:=⟨⟩
theorem tw4865031962591133966:True:=⟨⟩
theorem tw3110312804900647947:True:=⟨⟩
theorem tw1217056597073166722:True:=⟨⟩
theorem tw12554751875285743116:True:=⟨⟩
theorem tw10315414487832702517:True:=⟨⟩
theorem tw17429300702242993589:True:=⟨⟩
theorem tw7474580664391811454:True:=⟨⟩
theorem tw5978449601338558990:True:=⟨⟩
theorem tw9881474885291396671:True:=⟨⟩
theorem tw2891293753341419733:True:=⟨⟩
theorem tw2384385595554724151:True:=⟨⟩
theorem tw15717918381152464570:True:=⟨⟩
theorem tw6392436567330146488:True:=⟨⟩
theorem tw16750314236678664935:True:=⟨⟩
theorem tw10074437230379105961:True:=⟨⟩
theorem tw9600171609585081658:True:=⟨⟩
theorem tw3605262789335618164:True:=⟨⟩
theorem tw4238378757246705696:True:=⟨⟩
theorem tw8596361894247202027:True:=⟨⟩
theorem tw11336363334762001209:True:=⟨⟩
theorem tw14382345008340255422:True:=⟨⟩
theorem tw8324909053265918342:True:=⟨⟩
theorem tw8817769335410369640:True:=⟨⟩
theorem tw7984958088102666934:True:=⟨⟩
theorem tw17934687588878021329:True:=⟨⟩
theorem tw390664333395232412:True:=⟨⟩
theorem tw11544815675341949759:True:=⟨⟩
theorem tw15642462841633964151:True:=⟨⟩
theorem tw6783237430885043300:True:=⟨⟩
theorem tw3782829132189043922:True:=⟨⟩
theorem tw53002110845430961:True:=⟨⟩
theorem tw11956269687578697523:True:=⟨⟩
theorem tw9468626629462272922:True:=⟨⟩
theorem tw10830196252756029240:True:=⟨⟩
theorem tw10903031943035689850:True:=⟨⟩
theorem tw6449428811888731963:True:=⟨⟩
theorem tw4872883560970859585:True:=⟨⟩
theorem tw2420573568891214500:True:=⟨⟩
theorem tw18361770502206050456:True:=⟨⟩
theorem tw2080684610066170323:True:=⟨⟩
theorem tw642210075479444142:True:=⟨⟩
theorem tw9817054797296672018:True:=⟨⟩
theorem tw8606035814972625758:True:=⟨⟩
theorem tw2926578091568060684:True:=⟨⟩
theorem tw16833410007880068698:True:=⟨⟩
theorem tw9680094761181052549:True:=⟨⟩
theorem tw8371747132930897694:True:=⟨⟩
theorem tw4173903697720260334:True:=⟨⟩
theorem tw17639399782332094707:True:=⟨⟩
theorem tw8186937702748710333:True:=⟨⟩
theorem tw16661298219716375373:True:=⟨⟩
theorem tw6098449641016611390:True:=⟨⟩
theorem tw159417564810619054:True:=⟨⟩
theorem tw5564570676365117193:True:=⟨⟩
theorem tw2276949128902264911:True:=⟨⟩
theorem tw1526778544857457203:True:=⟨⟩
theorem tw1132946105480375698:True:=⟨⟩
theorem tw1506657565443176654:True:=⟨⟩
theorem tw1770843452308032798:True:=⟨⟩
theorem tw5563150212782671147:True:=⟨⟩
theorem tw14863055586822366891:True:=⟨⟩
theorem tw11310152778418046630:True:=⟨⟩
theorem tw2837367508398789848:True:=⟨⟩
theorem tw10019202175743410527:True:=⟨⟩
theorem tw11555863313118117344:True:=⟨⟩
theorem tw5207327602496899582:True:=⟨⟩
theorem tw13402295248378353748:True:=⟨⟩
theorem tw3579747950632837286:True:=⟨⟩
theorem tw7794110417242661951:True:=⟨⟩
theorem tw3006784517285277269:True:=⟨⟩
theorem tw3831105935744750260:True:=⟨⟩
theorem tw8956255191228400118:True:=⟨⟩
theorem tw8493087577014027814:True:=⟨⟩
theorem tw4431825019969492995:True:=⟨⟩
theorem tw14066554354156108022:True:=⟨⟩
theorem tw7740974056647872079:True:=⟨⟩
theorem tw3883726325843085779:True:=⟨⟩
theorem tw16310325072816024366:True:=⟨⟩
theorem tw2163634765932762185:True:=⟨⟩
theorem tw7789119766172989974:True:=⟨⟩
theorem tw5527474129614861515:True:=⟨⟩
theorem tw10289686872072387257:True:=⟨⟩
theorem tw8085728140779855468:True:=⟨⟩
theorem tw17783416045250608914:True:=⟨⟩
theorem tw81336981176811633:True:=⟨⟩
theorem tw15148059343448440061:True:=⟨⟩
theorem tw12226860035750917171:True:=⟨⟩
theorem tw13053675200853463331:True:=⟨⟩
theorem tw3503328682136706879:True:=⟨⟩
theorem tw3542266379153578409:True:=⟨⟩
theorem tw14333894598280807583:True:=⟨⟩
theorem tw7206882766795278694:True:=⟨⟩
theorem tw6808195990661280054:True:=⟨⟩
theorem tw15568880059287986890:True:=⟨⟩
theorem tw12254335857771547510:True:=⟨⟩
theorem tw3737649401060738625:True:=⟨⟩
theorem tw11949702223328408368:True:=⟨⟩
theorem tw9209683641329540627:True:=⟨⟩
theorem tw4670361340855449615:True:=⟨⟩
theorem tw12868966020448707179:True:=⟨⟩
theorem tw14036037607456154525:True:=⟨⟩
theorem tw13737415407222150789:True:=⟨⟩
theorem tw14730395699546744734:True:=⟨⟩
theorem tw15823984038323899439:True:=⟨⟩
theorem tw2805832171353674287:True:=⟨⟩
theorem tw10369919789065282535:True:=⟨⟩
theorem tw7988553034626589428:True:=⟨⟩
theorem tw17729322948727372032:True:=⟨⟩
theorem tw14730100935005031140:True:=⟨⟩
theorem tw3256945315198566933:True:=⟨⟩
theorem tw2523182857498360712:True:=⟨⟩
theorem tw12590219509302841175:True:=⟨⟩
theorem tw11632533455988544380:True:=⟨⟩
theorem tw5193133382782702169:True:=⟨⟩
theorem tw15932562951951594760:True:=⟨⟩
theorem tw1076026818310581191:True:=⟨⟩
theorem tw7942255687707804356:True:=⟨⟩
theorem tw13295060033420230758:True:=⟨⟩
theorem tw13477747032922604901:True:=⟨⟩
theorem tw3150173372189190366:True:=⟨⟩
theorem tw10431934366920177276:True:=⟨⟩
theorem tw5475934491914163194:True:=⟨⟩
theorem tw14420982764041761247:True:=⟨⟩
theorem tw984003242011657367:True:=⟨⟩
theorem tw18425356193324465090:True:=⟨⟩
theorem tw994517459485239721:True:=⟨⟩
theorem tw4741767622447057353:True:=⟨⟩
theorem tw17848032830289791452:True:=⟨⟩
theorem tw5805423549783047833:True:=⟨⟩
theorem tw10119700768945890162:True:=⟨⟩
theorem tw7042826209307237679:True:=⟨⟩
theorem tw10179401209188477494:True:=⟨⟩
theorem tw15188582245143156557:True:=⟨⟩
theorem tw17436809229207785642:True:=⟨⟩
theorem tw3529766672704660629:True:=⟨⟩
theorem tw16569903298146398930:True:=⟨⟩
theorem tw14879683278860263330:True:=⟨⟩
theorem tw9948224479032074679:True:=⟨⟩
theorem tw11814570480645014714:True:=⟨⟩
theorem tw5766729049102490061:True:=⟨⟩
theorem tw10597218140106532124:True:=⟨⟩
theorem tw16973200708889815164:True:=⟨⟩
theorem tw17781578177917326933:True:=⟨⟩
theorem tw13198960780690557559:True:=⟨⟩
theorem tw14334053212979460899:True:=⟨⟩
theorem tw5178655311068121167:True:=⟨⟩
theorem tw16621984230992077096:True:=⟨⟩
theorem tw16205295170336853192:True:=⟨⟩
theorem tw14630939056081551799:True:=⟨⟩
theorem tw15522976152004538659:True:=⟨⟩
theorem tw2909273629277156553:True:=⟨⟩
theorem tw50933001313524082:True:=⟨⟩
theorem tw4320442784022112177:True:=⟨⟩
theorem tw14591749486224389207:True:=⟨⟩
theorem tw15079526429985183439:True:=⟨⟩
theorem tw18389596760637796815:True:=⟨⟩
theorem tw14831584759912594311:True:=⟨⟩
theorem tw14030013905075711285:True:=⟨⟩
theorem tw4893448968268118527:True:=⟨⟩
theorem tw4971195415842688820:True:=⟨⟩
theorem tw5204008646754354328:True:=⟨⟩
theorem tw6987604878018913570:True:=⟨⟩
theorem tw2127505309801700804:True:=⟨⟩
theorem tw13634740389786814797:True:=⟨⟩
theorem tw1449558178077714396:True:=⟨⟩
theorem tw4475361988659857547:True:=⟨⟩
theorem tw17938140978531565421:True:=⟨⟩
theorem tw14576764995631132934:True:=⟨⟩
theorem tw1248746798257287237:True:=⟨⟩
theorem tw13534626391320921274:True:=⟨⟩
theorem tw12510047934505310880:True:=⟨⟩
theorem tw7964195833826278879:True:=⟨⟩
theorem tw6455205216533755329:True:=⟨⟩
theorem tw10485988046510020771:True:=⟨⟩
theorem tw9986082794872335961:True:=⟨⟩
theorem tw12244025833155283486:True:=⟨⟩
theorem tw17096090359343687044:True:=⟨⟩
theorem tw7054271401904354041:True:=⟨⟩
theorem tw394458558659704009:True:=⟨⟩
theorem tw12587420639640862271:True:=⟨⟩
theorem tw15491088722057003802:True:=⟨⟩
theorem tw12223964856404018293:True:=⟨⟩
theorem tw5520477229975789546:True:=⟨⟩
theorem tw11059962570630087988:True:=⟨⟩
theorem tw9436300507382023275:True:=⟨⟩
theorem tw5405430380291802076:True:=⟨⟩
theorem tw14601585346845080174:True:=⟨⟩
theorem tw10639064086342519309:True:=⟨⟩
theorem tw5957204918159367724:True:=⟨⟩
theorem tw10977783860631915175:True:=⟨⟩
theorem tw8896647119498056293:True:=⟨⟩
theorem tw3984590717449615053:True:=⟨⟩
theorem tw9187865027190054686:True:=⟨⟩
theorem tw7133437689285769727:True:=⟨⟩
theorem tw5033136926617667863:True:=⟨⟩
theorem tw10637325344164572091:True:=⟨⟩
theorem tw2168074817400812020:True:=⟨⟩
theorem tw9618917868327885600:True:=⟨⟩
theorem tw214593305587658108:True:=⟨⟩
theorem tw8487483697678898355:True:=⟨⟩
theorem tw11688944880873313114:True:=⟨⟩
theorem tw14251954679014713954:True:=⟨⟩
theorem tw168965056184574665:True:=⟨⟩
theorem tw16656610400211139619:True:=⟨⟩
theorem tw18333047456697184985:True:=⟨⟩
theorem tw14450770265697954914:True:=⟨⟩
theorem tw12776978337461368004:True:=⟨⟩
theorem tw10502144013567533119:True:=⟨⟩
theorem tw18171953922599420857:True:=⟨⟩
theorem tw1620879430247669603:True:=⟨⟩
theorem tw6083960670872935504:True:=⟨⟩
theorem tw624324846011517114:True:=⟨⟩
theorem tw10660678810242075162:True:=⟨⟩
theorem tw9261993472065844100:True:=⟨⟩
theorem tw16931653012166716900:True:=⟨⟩
theorem tw4817256951363607939:True:=⟨⟩
theorem tw11552431065045091771:True:=⟨⟩
theorem tw17978312008743890716:True:=⟨⟩
theorem tw5597553126059204087:True:=⟨⟩
theorem tw11383558494523019927:True:=⟨⟩
theorem tw17478612025678438461:True:=⟨⟩
theorem tw2955381568250520511:True:=⟨⟩
theorem tw16059721623321311547:True:=⟨⟩
theorem tw11840663801563778682:True:=⟨⟩
theorem tw10896411006247337194:True:=⟨⟩
theorem tw15166315285772568217:True:=⟨⟩
theorem tw17016267656542137823:True:=⟨⟩
theorem tw13733553636369822743:True:=⟨⟩
theorem tw16947866161543848887:True:=⟨⟩
theorem tw4279175860483958266:True:=⟨⟩
theorem tw1704810879563472651:True:=⟨⟩
theorem tw962557086430383613:True:=⟨⟩
theorem tw10742343672479438251:True:=⟨⟩
theorem tw10124442454276521837:True:=⟨⟩
theorem tw9844120177433822907:True:=⟨⟩
theorem tw10099290913830602394:True:=⟨⟩
theorem tw16850566911490275467:True:=⟨⟩
theorem tw10248252374370208695:True:=⟨⟩
theorem tw7558735954000777595:True:=⟨⟩
theorem tw4692868166781582946:True:=⟨⟩
theorem tw1123864486995857941:True:=⟨⟩
theorem tw7175384275303744252:True:=⟨⟩
theorem tw13450467847246450041:True:=⟨⟩
theorem tw11672204619806189356:True:=⟨⟩
theorem tw16463194326206401715:True:=⟨⟩
theorem tw3926106957283238153:True:=⟨⟩
theorem tw16146138934060712289:True:=⟨⟩
theorem tw17127016430192414513:True:=⟨⟩
theorem tw8846082700136254094:True:=⟨⟩
theorem tw2971726136715689301:True:=⟨⟩
theorem tw16114553850592345738:True:=⟨⟩
theorem tw11390669649945631845:True:=⟨⟩
theorem tw14122232228320612167:True:=⟨⟩
theorem tw9723826100718322202:True:=⟨⟩
theorem tw6095719894843780766:True:=⟨⟩
theorem tw15378176917192160375:True:=⟨⟩
theorem tw420341973586809651:True:=⟨⟩
theorem tw15809696549495349072:True:=⟨⟩
theorem tw5346592058884390787:True:=⟨⟩
theorem tw14182834880267865781:True:=⟨⟩
theorem tw10634035843475957099:True:=⟨⟩
theorem tw17432284649668992399:True:=⟨⟩
theorem tw4329855457580714356:True:=⟨⟩
theorem tw1443255879812263525:True:=⟨⟩
theorem tw12966974411644574303:True:=⟨⟩
theorem tw16611048759755793134:True:=⟨⟩
theorem tw2379198568557832884:True:=⟨⟩
theorem tw3521290335391767790:True:=⟨⟩
theorem tw5059182065756501736:True:=⟨⟩
theorem tw15844721434968822004:True:=⟨⟩
theorem tw13290624213042559758:True:=⟨⟩
theorem tw5029724872901717746:True:=⟨⟩
theorem tw13820046661864529504:True:=⟨⟩
theorem tw7163584390605927569:True:=⟨⟩
theorem tw2382638930646173338:True:=⟨⟩
theorem tw10281156699038494510:True:=⟨⟩
theorem tw4177907366088188340:True:=⟨⟩
theorem tw7511086970096938714:True:=⟨⟩
theorem tw10729266252657281379:True:=⟨⟩
theorem tw6052943967308745763:True:=⟨⟩
theorem tw8466098825207738701:True:=⟨⟩
theorem tw10486038953640951567:True:=⟨⟩
theorem tw576550238239874254:True:=⟨⟩
theorem tw13274722910597618986:True:=⟨⟩
theorem tw3723124161974126029:True:=⟨⟩
theorem tw5918746700531403810:True:=⟨⟩
theorem tw11522923693327001433:True:=⟨⟩
theorem tw11707431658409344612:True:=⟨⟩
theorem tw10971803001292344719:True:=⟨⟩
theorem tw6223977898154924968:True:=⟨⟩
theorem tw5171455676185589965:True:=⟨⟩
theorem tw10207605151956814547:True:=⟨⟩
theorem tw16637920467798939316:True:=⟨⟩
theorem tw12030009229475968813:True:=⟨⟩
theorem tw6831799208044433501:True:=⟨⟩
theorem tw11259400464034965955:True:=⟨⟩
theorem tw3603233122264540239:True:=⟨⟩
theorem tw3692155109255327315:True:=⟨⟩
theorem tw3058149580658220216:True:=⟨⟩
theorem tw2963785149557939030:True:=⟨⟩
theorem tw12691203495065919981:True:=⟨⟩
theorem tw5146605312920030401:True:=⟨⟩
theorem tw9133627032782330641:True:=⟨⟩
theorem tw4449189121358822121:True:=⟨⟩
theorem tw7042737237865947845:True:=⟨⟩
theorem tw9529672637755337618:True:=⟨⟩
theorem tw2738863638426895369:True:=⟨⟩
theorem tw17122055361234338522:True:=⟨⟩
theorem tw9495026155597841321:True:=⟨⟩
theorem tw4628212667071705193:True:=⟨⟩
theorem tw7237192836656241220:True:=⟨⟩
theorem tw17679770790042190918:True:=⟨⟩
theorem tw2999074917534549633:True:=⟨⟩
theorem tw10101335391028683379:True:=⟨⟩
theorem tw9704116099293094547:True:=⟨⟩
end PySem.W.Fast
open PySem PySem.W PyProof.Rows
local macro_rules | `(tactic| walk_at "fn") => `(tactic| (refine' Sl.Zi5 ‹_› ‹_› ?a ?l ?c ?k; (case a => k_is); (case l => k_is); (case c => k_is); (case k => k_is)))
local macro_rules | `(tactic| walk_at "cst") => `(tactic| (refine' Sl.Zle ‹_› ‹_› ?a; (case a => k_is)))
local macro_rules | `(tactic| walk_at "no") => `(tactic| (refine' PySem.W.mg_none_of ‹_› ‹_› ?a; (case a => k_is)))
local macro_rules | `(tactic| walk_at "cls") => `(tactic| (refine' Sl.Zgu ‹_› ‹_› ?a ?i ?l ?c ?k ?fn ?mk ?kc ?pg ?hd ?po ?sa ?at_; (case a => k_is); (case i => k_is); (case l => k_is); (case c => k_is); (case k => k_is); (case fn => k_is); (case mk => k_is); (case kc => k_is); (case pg => k_is); (case hd => k_is); (case po => k_is); (case sa => k_is); (case at_ => ((repeat' (first | exact List.forall_mem_nil _ | refine List.forall_mem_cons.mpr ⟨?_, ?_⟩)); all_goals (unfold L2.NoAttr; k_is)))))
set_option maxRecDepth 100000 in
set_option maxHeartbeats 0 in
theorem PySem.Challenge.cw_surelines_s01_answers_holds : PySem.Challenge.rw_surelines_s01_answers.Holds := by
  w_on; k_headS; (case hw => exact ⟨[.list [.int 14]], by decide +kernel, by decide +kernel⟩)
  k_fillS
  refine L2.Zco (r := PySem.Challenge.rw_surelines_s01_answers) (k := 12) (CX := L2.CX0) (ps := ["calls"]) (sp := Sl.Zca) (by decide +kernel) rfl rfl ⟨rfl, by decide, by decide⟩ (fun w h Y => PySem.W.kIn_of Y) ?F ?S (fun _ _ _ _ z => z)
  case F =>
    intro w mg fa h Y KX G hmg
    refine Sl.Zli KX G hmg ?T
    case T =>
      constructor
      case blt =>
        constructor
        all_goals walk_at "no"
      case rev => walk_at "no"
      case lst =>
        refine' Sl.Zlg KX G ?a ?l; (case a => k_is); (case l => k_is)
      case num =>
        refine' Sl.Zlh KX G ?a ?l ?e0 ?e1 ?e2 ?e3 ?e4 ?e5 ?e6 ?e7 ?e8 ?e9 ?e10; (case a => k_is); (case l => k_is)
        all_goals decide +kernel
      case calls =>
        refine' Sl.Zi6 KX G ?a ?l ?a0 ?a1 ?a2 ?a3 ?a4 ?a5 ?a6 ?a7 ?a8 ?a9 ?a10 ?a11 ?a12 ?a13 ?a14; (case a => k_is); (case l => k_is); (case a0 => k_is); (case a1 => k_is); (case a2 => k_is); (case a3 => k_is); (case a4 => k_is); (case a5 => k_is); (case a6 => k_is); (case a7 => k_is); (case a8 => k_is); (case a9 => k_is); (case a10 => k_is); (case a11 => k_is); (case a12 => k_is); (case a13 => k_is); (case a14 => k_is)
      iterate 8 walk_at "cls"
      iterate 71 walk_at "fn"
      iterate 21 walk_at "cst"
  case S =>
    intro K H xs a hO hwi hask hx
    cases hx with
    | cons h1 h2 =>
      cases h2
      cases h1 with
      | lst hs ha =>
        have e := L2.Zew a.1 _ ha
        subst e
        have q : ((Codec.inLen 0 17000 a.1 && a.1.all (Codec.inInt (-1000000000000000000) 1000000000000000000)) && true) = true := hwi
        rw [Bool.and_eq_true, Bool.and_eq_true] at q
        exact ⟨_, a.1, rfl, hs, hask, (Codec.inNat_iff.mp q.1.1).2, fun H' p hp => .lst (L2.SqL.of hp) (L2.Zev _)⟩
