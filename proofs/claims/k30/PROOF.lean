import PyProof.Rows.All
import Wide.All
import OpenK.AllK
import Wide.FinOn
import PyProof.EqAt
import PyProof.EqKinds
import PyProof.TupleCall
import KE.KTryMore
import PyProof.ExcArgsOwn
import PyProof.ExcBaseAll.ValueError
import PyProof.ExcAttrAll.ValueError
import PySem.Challenge.RW_stitchroom_k30_drawers
set_option Elab.async false
set_option linter.all false
set_option maxRecDepth 100000
set_option maxHeartbeats 4000000
namespace L2
open PySem PySem.Spec PyProof.Rows
noncomputable abbrev Key:=Sum Int Str
noncomputable def Qa9:Key->Value->Bool
 | .inl k,v=>Value.isInt k v
 | .inr x,v=>Value.isStrOf x v
noncomputable def Qpi(w:World):Key->Int
 | .inl k=>hashInt k
 | .inr x=>hashStr w x
theorem QB:∀{k:Key} {v:Value},Qa9 k v=true->(∃i t,k=Sum.inl i/\v=Value.int i t)\/(∃x t,k=Sum.inr x/\v=Value.str x t)
 | .inl i,v,h=>by
  obtain⟨t,e⟩:=Value.isInt_shape (k:=i) (v:=v) h;exact .inl ⟨i,t,rfl,e⟩
 | .inr x,v,h=>by
  obtain⟨t,e⟩:=Value.isStrOf_shape (x:=x) (v:=v) h;exact .inr ⟨x,t,rfl,e⟩
theorem Qeg(i:Int)(t:Tok):Qa9 (.inl i) (.int i t)=true:=by simp [Qa9,Value.isInt]
theorem Qef(x:Str)(t:Tok):Qa9 (.inr x) (.str x t)=true:=by simp [Qa9,Value.isStrOf]
theorem Qll(a b:Int):decide ((Sum.inl a:Key)=Sum.inl b)=(a==b):=by
 by_cases e:a=b
 ·subst e;simp
 ·have h:¬(Sum.inl a:Key)=Sum.inl b:=fun q=>e (Sum.inl.inj q);rw [decide_eq_false h];exact(beq_eq_false_iff_ne.mpr e).symm
theorem Qli(a b:Str):decide ((Sum.inr a:Key)=Sum.inr b)=decide (a=b):=by
 by_cases e:a=b
 ·subst e;simp
 ·have h:¬(Sum.inr a:Key)=Sum.inr b:=fun q=>e (Sum.inr.inj q);rw [decide_eq_false h,decide_eq_false e]
theorem Qlk(a:Int)(b:Str):decide ((Sum.inl a:Key)=Sum.inr b)=false:=decide_eq_false (fun q=>nomatch q)
theorem Qlj(a:Str)(b:Int):decide ((Sum.inr a:Key)=Sum.inl b)=false:=decide_eq_false (fun q=>nomatch q)
noncomputable def Qq(prog:Program)(w:World):PySem.KeyKind prog w Key where
 is:=Qa9
 hash:=Qpi w
 inj:=fun v a b ha hb=>by
  rcases QB ha with⟨i,t,rfl,rfl⟩ | ⟨x,t,rfl,rfl⟩
  ·rcases QB hb with⟨j,u,rfl,e⟩ | ⟨y,u,rfl,e⟩
   ·injection e with e1 _;rw [e1]
   ·exact nomatch e
  ·rcases QB hb with⟨j,u,rfl,e⟩ | ⟨y,u,rfl,e⟩
   ·exact nomatch e
   ·injection e with e1 _;rw [e1]
 byValue:=fun k v h=>by
  rcases QB h with⟨i,t,rfl,rfl⟩ | ⟨x,t,rfl,rfl⟩<;>rfl
 pyHash:=fun hv h=>by
  rcases QB hv with⟨i,t,rfl,rfl⟩ | ⟨x,t,rfl,rfl⟩
  ·exact wpAny_pyHash_int h
  ·exact wpAny_pyHash_str h
 eqBool:=fun hu hv h=>by
  rcases QB hu with⟨i,t,rfl,rfl⟩ | ⟨x,t,rfl,rfl⟩
  ·rcases QB hv with⟨j,u,rfl,rfl⟩ | ⟨y,u,rfl,rfl⟩
   ·rw [Qll]at h;exact wpAny_eqBool_int h
   ·rw [Qlk]at h;exact SeqAt.EqAt.int_str i t y u _ _ _ _ h
  ·rcases QB hv with⟨j,u,rfl,rfl⟩ | ⟨y,u,rfl,rfl⟩
   ·rw [Qlj]at h;exact SeqAt.EqAt.str_int x t j u _ _ _ _ h
   ·rw [Qli]at h;exact wpAny_eqBool_str h
 «strs»:=fun k x t v h=>by
  rcases QB h with⟨i,u,rfl,e⟩ | ⟨y,u,rfl,e⟩
  ·exact nomatch e
  ·injection e with e1 _;subst e1;cases v<;>rfl
theorem Qa5(prog:Program)(w:World)(i:Int)(t:Tok):(Qq prog w).is (.inl i) (.int i t)=true:=Qeg i t
theorem Qa4(prog:Program)(w:World)(x:Str)(t:Tok):(Qq prog w).is (.inr x) (.str x t)=true:=Qef x t
end L2
namespace L2
open PySem PySem.Spec PyProof.Rows
inductive V where
 | non | bl (b:Bool) | int (i:Int) | str (x:Str) | byt (b:Array UInt8) | flt (b:UInt64) | ref (a:Addr) | ty (n:String)
 deriving DecidableEq
noncomputable def RelV:V->Value->Prop
 | .non,u=>u=Value.none
 | .bl b,u=>u=Value.bool b
 | .int i,u=>∃t,u=Value.int i t
 | .str x,u=>∃t,u=Value.str x t
 | .byt b,u=>∃t,u=Value.bytes b t
 | .flt b,u=>∃t,u=Value.float b t
 | .ref a,u=>u=Value.ref a
 | .ty n,u=>u=Value.type n
noncomputable abbrev Vals:List V->List Value->Prop:=Paired RelV
theorem Vals.length{xs:List V}{us:List Value}(r:Vals xs us):xs.length=us.length:=Paired.length r
theorem Vals.get:∀{xs:List V} {us:List Value} {i:Nat} {x:V},Vals xs us->xs[i]?=some x->∃u,us[i]?=some u/\RelV x u
 | _,_,_,_,.nil,e=>by simp at e
 | _,_,0,_,.cons r _,e=>by simp at e;subst e;exact⟨_,rfl,r⟩
 | _,_,i+1,x,.cons _ t,e=>by
  obtain⟨u,h1,h2⟩:=Vals.get (i:=i) (x:=x) t (by simpa using e)
  exact⟨u,by simpa using h1,h2⟩
theorem Vals.set{x:V}{u:Value}(r:RelV x u):∀{xs:List V} {us:List Value} (i:Nat),Vals xs us->Vals (xs.set i x) (us.set i u)
 | _,_,_,.nil=>.nil
 | _,_,0,.cons _ t=>.cons r t
 | _,_,i+1,.cons q t=>.cons q (Vals.set r i t)
theorem Vals.append:∀{xs ys:List V} {us ws:List Value},Vals xs us->Vals ys ws->Vals (xs++ys) (us++ws)
 | _,_,_,_,.nil,s=>s
 | _,_,_,_,.cons r t,s=>.cons r (Vals.append t s)
theorem Vals.take:∀{xs:List V} {us:List Value} (n:Nat),Vals xs us->Vals (xs.take n) (us.take n)
 | _,_,0,_=>.nil
 | _,_,_+1,.nil=>.nil
 | _,_,n+1,.cons r t=>.cons r (Vals.take n t)
theorem Vals.drop:∀{xs:List V} {us:List Value} (n:Nat),Vals xs us->Vals (xs.drop n) (us.drop n)
 | _,_,0,r=>r
 | _,_,_+1,.nil=>.nil
 | _,_,n+1,.cons _ t=>Vals.drop n t
noncomputable def RelO:Option V->Option Value->Prop
 | some v,some u=>RelV v u
 | none,none=>True
 | _,_=>False
noncomputable def KV{κ:Type}:List (κ×V)->List (κ×Value)->Prop:=Paired fun(p:κ×V) (q:κ×Value)=>p.1=q.1/\RelV p.2 q.2
noncomputable def kV:Key->V
 | .inl i=>.int i
 | .inr x=>.str x
inductive HO where
 /-- a list -/
 | lst (xs:List V)
 /-- a tuple (never changes) -/
 | tup (xs:List V)
 /-- a dict whose keys are ints and texts;one whose keys are tuples of ints and texts (the empty one is both) -/
 | dK (kvs:List (Key×V)) | dT (kvs:List (List Key×V))
 /-- a set of ints: its members,its size -/
 | set (S:Int->Bool) (n:Nat)
 /-- an instance of the class at C,its dict at dx,its attributes -/
 | ins (C dx:Addr) (fs:List (Str×V))
 /-- the dict of the instance at x -/
 | own (x:Addr)
 /-- the dict of an exception -/
 | xd (fs:List (Str×V))
 /-- a bound method,f of x -/
 | met (f x:Addr)
 /-- a range object lo,lo+1,.. below hi -/
 | rng (lo hi:Int)
 /-- a thing that is known to the object (the script;a dict while a loop walks it): read,never written while it is so -/
 | frz (o:Obj) (u:HO)
 /-- a code object's table -/
 | tbl (ps:Array Value)
 /-- any other thing,by what is true of its one object (a def of one's own: SetO a S n:=HO.ext fun h=>..) -/
 | ext (φ:Heap->Prop)
noncomputable abbrev Hp:=Addr->Option HO
noncomputable def upd(H:Hp)(a:Addr)(o:HO):Hp:=fun b=>if b=a then some o else H b
theorem Qf{H:Hp}{a:Addr}{o:HO}:upd H a o a=some o:=by unfold upd;rw [if_pos rfl]
theorem Qe{H:Hp}{a b:Addr}{o:HO}(h:b≠a):upd H a o b=H b:=by unfold upd;rw [if_neg h]
theorem Qnh{H:Hp}{a b:Addr}{o u:HO}(h:H a=some o)(h':H b=some u)(d:o≠u):a≠b:=by
 intro e;subst e;rw [h]at h';exact d (Option.some.inj h')
theorem QX{H:Hp}{a b:Addr}{o:HO}(h:H a=some o)(h':H b=none):a≠b:=by
 intro e;subst e;rw [h]at h';cases h'
section
variable (P:Program)(w:World)
noncomputable def ObjOk(H:Hp)(h:Heap)(a:Addr):HO->Prop
 | .lst xs => xs.length <= sizeLine /\ ∃ (its : List Value) (n : Nat), Vals xs its /\ h.get? a = some { cls := .type "list", data := .seq its.toArray n }
 | .tup xs=>xs.length<=sizeLine/\∃its:List Value,Vals xs its/\IsTup h a its.toArray
 | .dK kvs=>kvs.length<=sizeLine/\(a==sysModules)=false/\∃vs,KV kvs vs/\h.DictOf (Qq P w) a vs
 | .dT kvs=>kvs.length<=sizeLine/\(a==sysModules)=false/\∃xs:List (List Key×Addr×Value),
   Paired (fun(p:List Key×V) (q:List Key×Addr×Value)=>p.1=q.1/\H q.2.1=some (.tup (p.1.map kV))/\RelV p.2 q.2.2) kvs xs /\
   ∃o es ep,h.get? a=some o/\o.ExactDict/\o.data=.dict es ep/\es.toList=xs.map (entryOfKey (tupleKind (Qq P w)))/\(xs.map (·.1)).Nodup
 | .set S n=>h.SetOf (intKind P w) a S n
 | .ins C dx fs=>H dx=some (.own a)/\fs.length<=1000/\dx≠a/\h.get? a=some (PySem.W.instObj C dx) /\
   ∃mA,h.Ns1 dx mA/\(∀f,RelO (fs.lookup f) (mA f))/\PySem.Within mA (fs.map (·.1))
 | .own _=>∃o,h.get? a=some o
 | .xd fs=>∃mA,h.Ns1 a mA/\∀f,RelO (fs.lookup f) (mA f)
 | .rng lo hi=>∃t u v,h.get? a=some { cls:=.type "range",data:=.fields #[.int lo t,.int hi u,.int 1 v] }
 | .frz o u=>h.get? a=some o/\ObjOk H h a u
 | .tbl ps=>h.get? a=some { cls:=.none,data:=.fields ps }
 | .met f x=>h.get? a=some (PySem.W.methodObj (.ref f) (.ref x))
 | .ext φ=>φ h/\(∃o,h.get? a=some o)/\∀h1 h2:Heap,φ h1->(∀o,h1.get? a=some o->h2.get? a=some o)->φ h2
noncomputable def HOk(H:Hp)(h:Heap):Prop:=∀a o,H a=some o->ObjOk P w H h a o
end
section
variable {P:Program}{w:World}{H H':Hp}{h h':Heap}{a:Addr}{o:HO}
theorem ObjOk.lt(x:ObjOk P w H h a o):a<h.objs.size:=by
 cases o with
 | lst xs=>obtain⟨_,_,_,_,e⟩:=x;exact Heap.lt_size e
 | tup xs=>obtain⟨_,_,_,p⟩:=x;exact p.lt
 | dK kvs=>obtain⟨_,_,_,_,o,_,_,e,_⟩:=x;exact Heap.lt_size e
 | dT kvs=>obtain⟨_,_,_,_,o,_,_,e,_⟩:=x;exact Heap.lt_size e
 | set S n=>obtain⟨o,_,_,_,e,_⟩:=x;exact Heap.lt_size e
 | ins C dx fs=>obtain⟨_,_,_,e,_⟩:=x;exact Heap.lt_size e
 | own y=>obtain⟨_,e⟩:=x;exact Heap.lt_size e
 | xd fs=>obtain⟨_,⟨_,_,_,e,_⟩,_⟩:=x;exact Heap.lt_size e
 | rng lo hi=>obtain⟨_,_,_,e⟩:=x;exact Heap.lt_size e
 | frz ob u=>obtain⟨e,_⟩:=x;exact Heap.lt_size e
 | tbl ps=>exact Heap.lt_size (show h.get? a=some _ from x)
 | met f y=>exact Heap.lt_size (show h.get? a=some _ from x)
 | ext φ=>obtain⟨_,⟨_,e⟩,_⟩:=x;exact Heap.lt_size e
theorem Paired.mapP{α β:Type}{F G:α->β->Prop}:∀{l₁:List α} {l₂:List β},Paired F l₁ l₂->(∀a b,F a b->G a b)->Paired G l₁ l₂
 | _,_,.nil,_=>.nil
 | _,_,.cons r t,f=>.cons (f _ _ r) (Paired.mapP t f)
theorem Paired.imp'{α β:Type}{F G:α->β->Prop}(f:∀a b,F a b->G a b){l₁:List α}{l₂:List β}(r:Paired F l₁ l₂):Paired G l₁ l₂:=Paired.mapP r f
theorem ObjOk.stay(x:ObjOk P w H h a o)(k:∀b u,(b=a\/H b=some (.own a))->h.get? b=some u->h'.get? b=some u)
  (ho:∀b,H b=some (.own a)->H' b=some (.own a)) (ht:∀b xs,H b=some (.tup xs)->H' b=some (.tup xs)):ObjOk P w H' h' a o:=by
 induction o with
 | lst xs=>obtain⟨z,its,n,r,e⟩:=x;exact⟨z,its,n,r,k _ _ (.inl rfl) e⟩
 | tup xs=>obtain⟨z,its,r,ob,e,c⟩:=x;exact⟨z,its,r,ob,k _ _ (.inl rfl) e,c⟩
 | dK kvs=>obtain⟨z,y,vs,r,ob,es,ep,e,c⟩:=x;exact⟨z,y,vs,r,ob,es,ep,k _ _ (.inl rfl) e,c⟩
 | dT kvs =>
  obtain⟨z,y,xs,r,ob,es,ep,e,c⟩:=x;exact⟨z,y,xs,Paired.mapP r fun p q z=>⟨z.1,ht _ _ z.2.1,z.2.2⟩,ob,es,ep,k _ _ (.inl rfl) e,c⟩
 | set S n=>obtain⟨ob,es,ep,t,e,c⟩:=x;exact⟨ob,es,ep,t,k _ _ (.inl rfl) e,c⟩
 | ins C dx fs =>
  obtain⟨d,z,ne,e,mA,⟨od,es,ep,e2,c⟩,r⟩:=x;exact⟨ho _ d,z,ne,k _ _ (.inl rfl) e,mA,⟨od,es,ep,k _ _ (.inr d) e2,c⟩,r⟩
 | own y=>obtain⟨ob,e⟩:=x;exact⟨ob,k _ _ (.inl rfl) e⟩
 | xd fs=>obtain⟨mA,⟨od,es,ep,e,c⟩,r⟩:=x;exact⟨mA,⟨od,es,ep,k _ _ (.inl rfl) e,c⟩,r⟩
 | rng lo hi=>obtain⟨t,u,v,e⟩:=x;exact⟨t,u,v,k _ _ (.inl rfl) e⟩
 | frz ob u ih=>obtain⟨e,q⟩:=x;exact⟨k _ _ (.inl rfl) e,ih q⟩
 | tbl ps =>
  have e:h.get? a=some { cls:=.none,data:=.fields ps }:=x;show h'.get? a=some { cls:=.none,data:=.fields ps };exact k a _ (.inl rfl) e
 | met f y =>
  have e:h.get? a=some (PySem.W.methodObj (.ref f) (.ref y)):=x;show h'.get? a=some (PySem.W.methodObj (.ref f) (.ref y));exact k a _ (.inl rfl) e
 | ext φ=>obtain⟨p,⟨o,e⟩,st⟩:=x;exact⟨st _ _ p fun o q=>k _ _ (.inl rfl) q,⟨o,k _ _ (.inl rfl) e⟩,st⟩
theorem HOk.lt(x:HOk P w H h)(e:H a=some o):a<h.objs.size:=(x a o e).lt
theorem HOk.fresh(x:HOk P w H h)(e:h.objs.size<=a):H a=none:=by
 cases q:H a with
 | none=>rfl
 | some u=>exact absurd (Nat.lt_of_lt_of_le (x.lt q) e) (Nat.lt_irrefl _)
theorem HOk.kept(x:HOk P w H h)(k:∀b u,h.get? b=some u->h'.get? b=some u):HOk P w H h':=fun a o e =>
 (x a o e).stay (fun b u _ q=>k b u q) (fun _ q=>q) fun _ _ q=>q
theorem HOk.laid(x:HOk P w H h)(k:∀b u,h.get? b=some u->h'.get? b=some u)(hp:h.objs.size<=a)(new:ObjOk P w (upd H a o) h' a o):HOk P w (upd H a o) h':=fun b u e=>by
 have hn:=x.fresh hp;by_cases hb:b=a
 ·subst hb;rw [Qf]at e;cases e;exact new
 ·rw [Qe hb]at e
  exact(x b u e).stay (fun c v _ q=>k c v q) (fun c q=>by rw [Qe (QX q hn)];exact q) fun c xs q=>by rw [Qe (QX q hn)];exact q
end
noncomputable def Rd(H:Hp)(a:Addr)(u:HO):Prop:=H a=some u\/∃o,H a=some (.frz o u)
theorem Rd.ok{P:Program}{w:World}{H:Hp}{h:Heap}{a:Addr}{u:HO}(r:Rd H a u)(x:HOk P w H h):ObjOk P w H h a u:=by
 rcases r with r | ⟨o,r⟩
 ·exact x a u r
 ·obtain⟨_,q⟩:=x a _ r;exact q
noncomputable def Mut:Option HO->Prop
 | some (.lst _)=>True
 | some (.dK _)=>True
 | some (.dT _)=>True
 | some (.set _ _)=>True
 | some (.ins _ _ _)=>True
 | some (.ext _)=>True
 | _=>False
section
variable {P:Program}{w:World}{H:Hp}{h h':Heap}{x e:Addr}{o':HO}
theorem HOk.write(ok:HOk P w H h)(mu:Mut (H x))(he:e=x\/H e=some (.own x))(k:∀b u,b≠e->h.get? b=some u->h'.get? b=some u)(heo:∃u,h'.get? e=some u)
  (new:ObjOk P w (upd H x o') h' x o'):HOk P w (upd H x o') h':=fun b u q=>by
 have nown:∀c y,H c=some (.own y)->c≠x:=fun c y r z=>by subst z;rw [r]at mu;exact mu
 have ntup:∀c xs,H c=some (.tup xs)->c≠x:=fun c xs r z=>by subst z;rw [r]at mu;exact mu
 by_cases hb:b=x
 ·subst hb;rw [Qf]at q;cases q;exact new
 ·rw [Qe hb]at q;by_cases hbe:b=e
  ·have q':H b=some (.own x):=by
    rcases he with z | z
    ·exact absurd (hbe.trans z) hb
    ·rw [hbe];exact z
   rw [q]at q';cases q';obtain⟨v,hv⟩:=heo
   exact⟨v,by rw [hbe];exact hv⟩
  ·refine(ok b u q).stay (fun c v hc r=>k c v ?_ r) (fun c r=>by rw [Qe (nown c b r)];exact r) fun c xs r=>by rw [Qe (ntup c xs r)];exact r
   rcases hc with rfl | hc
   ·exact hbe
   ·rintro rfl
    rcases he with z | z
    ·exact nown c b hc z
    ·rw [hc]at z;cases z;exact hb rfl
end
structure Un(fs ex:List Addr)(H H':Hp)(h h':Heap):Prop where
 keep:∀b o,h.get? b=some o->H b=none->b∉fs->b∉ex->h'.get? b=some o
 slot:∀b o,h.get? b=some o->H b=none->b∈fs->b∉ex->∃sl,h'.get? b=some { o with slots:=sl }
 free:∀b o,h.get? b=some o->H b=none->b∉ex->H' b=none
 there:∀b o,h.get? b=some o->b∉ex->∃o',h'.get? b=some o'
 tups:∀b xs,H b=some (.tup xs)->H' b=some (.tup xs)
 frzs:∀b o u,H b=some (.frz o u)->H' b=some (.frz o u)
 tbls:∀b ps,H b=some (.tbl ps)->∃more,H' b=some (.tbl (ps++more))
section
variable {fs fs' ex ex':List Addr}{H H1 H2:Hp}{h h1 h2 h':Heap}{a x e:Addr}{o:HO}
theorem Un.any(u:Un fs ex H H1 h h1){b:Addr}{ob:Obj}(q:h.get? b=some ob)(n:H b=none)(hx:b∉ex):∃sl,h1.get? b=some { ob with slots:=sl }:=by
 by_cases hb:b∈fs
 ·exact u.slot b ob q n hb hx
 ·exact⟨ob.slots,u.keep b ob q n hb hx⟩
theorem Un.kept(k:∀b u,h.get? b=some u->h'.get? b=some u):Un fs ex H H h h' :=
 ⟨fun b ob q _ _ _=>k b ob q,fun b ob q _ _ _=>⟨ob.slots,k b ob q⟩,fun _ _ _ n _=>n,fun b ob q _=>⟨ob,k b ob q⟩,fun _ _ q=>q,fun _ _ _ q=>q,fun _ ps q=>⟨#[],by rw [q];simp⟩⟩
theorem Un.refl:Un fs ex H H h h:=Un.kept fun _ _ q=>q
theorem Un.laid(k:∀b u,h.get? b=some u->h'.get? b=some u)(hp:h.objs.size<=a)(hn:H a=none):Un fs ex H (upd H a o) h h' where
 keep:=fun b u q _ _ _=>k b u q
 slot:=fun b u q _ _ _=>⟨u.slots,k b u q⟩
 free:=fun b u q n _=>by rw [Qe (Nat.ne_of_lt (Nat.lt_of_lt_of_le (Heap.lt_size q) hp))];exact n
 there:=fun b u q _=>⟨u,k b u q⟩
 tups:=fun b xs q=>by rw [Qe (QX q hn)];exact q
 frzs:=fun b u xs q=>by rw [Qe (QX q hn)];exact q
 tbls:=fun b ps q=>⟨#[],by rw [Qe (QX q hn),q];simp⟩
theorem Un.write(mu:Mut (H x))(he:e=x\/H e=some (.own x))(k:∀b u,b≠e->h.get? b=some u->h'.get? b=some u)(heo:∃u,h'.get? e=some u):Un fs ex H (upd H x o) h h':=by
 have hx:∀b,H b=none->b≠x:=fun b n z=>by subst z;rw [n]at mu;exact mu
 have hb:∀b,H b=none->b≠e:=fun b n z=>by
  subst z
  rcases he with r | r
  ·exact hx b n r
  ·rw [n]at r;cases r
 have hm:∀b u,H b=some u->¬Mut (some u)->b≠x:=fun b u q nm z=>by subst z;rw [q]at mu;exact nm mu
 refine⟨fun b u q n _ _=>k b u (hb b n) q,fun b u q n _ _=>⟨u.slots,k b u (hb b n) q⟩,fun b u q n _=>by rw [Qe (hx b n)];exact n,fun b u q _=>?_,
  fun b xs q=>by rw [Qe (hm b _ q fun z=>z)];exact q,fun b u xs q=>by rw [Qe (hm b _ q fun z=>z)];exact q,fun b ps q=>⟨#[],by rw [Qe (hm b _ q fun z=>z),q];simp⟩⟩
 by_cases hbe:b=e
 ·subst hbe;exact heo
 ·exact⟨u,k b u hbe q⟩
end
noncomputable def trk(h:Heap)(H:Hp):List Addr:=(List.range h.objs.size).filter fun a=>(H a).isSome
noncomputable def Qgh(h:Heap)(H:Hp):Heap:=PySem.W.hideAll h (trk h H)
theorem Qer(h:Heap)(H:Hp):(Qgh h H).objs.size=h.objs.size:=PySem.W.hideAll_size _ _
theorem Qgg{h:Heap}{H:Hp}{b:Addr}{o:Obj}(e:h.get? b=some o)(n:H b=none):(Qgh h H).get? b=some o :=
 PySem.W.hideAll_get _ e fun hm=>by
  have q:(H b).isSome=true:=(List.mem_filter.mp hm).2;rw [n]at q;simp at q
theorem QiA{h:Heap}{H:Hp}{b:Addr}{o:Obj}(e:(Qgh h H).get? b=some o):h.get? b=some o/\H b=none:=by
 have e':h.get? b=some o:=PySem.W.of_hideAll (trk h H) e;refine⟨e',?_⟩
 cases q:H b with
 | none=>rfl
 | some x =>
  have hm:b∈trk h H:=List.mem_filter.mpr ⟨List.mem_range.mpr (Heap.lt_size e'),by simp [q]⟩
  have z:(Qgh h H).get? b=none:=PySem.W.hideAll_none (trk h H) hm;rw [z]at e;cases e
end L2
namespace L2
open PySem PySem.Spec PyProof.Rows
structure Mod(K:PySem.W.Frag)(mg:Str->Option Value)(base:Heap):Prop where
 kin:K.In base
 glob:base.Ns mainGlobals mg
 blt : ∃ mb, base.Ns builtinsNs mb /\ ∀ x : Str, x ≠ "__name__" -> mb x = bootBuiltins x
 nolimit:base.NoLimit
structure Cx where
 prog:Program
 w:World
 K:PySem.W.Frag
 mg:Str->Option Value
 base:Heap
 A:Around
 N:List Str
 s₀:Shared
 H₀:Hp
 env:Env
 outer:List Env
 stack:List Env
 ex:List Addr
 fn:Str->Bool
 calm:Bool
 pn:List (Addr×Obj)
 xe:Value->Shared->Prop
noncomputable def frs(l:List Env):List Addr:=l.filterMap (·.frame)
noncomputable abbrev Cx.fs(X:Cx):List Addr:=frs X.outer
noncomputable def Vis(sc:Scope)(x:Str):Prop:=sc.names.lookup x=some .local\/sc.names.lookup x=some .cell\/sc.names.lookup x=some .free
noncomputable def Loc(sc:Scope)(x:Str):Prop:=sc.names.lookup x=some .local\/sc.names.lookup x=some .cell
noncomputable def Qp5(env:Env)(h:Heap)(m:Str->Option Value)(x:Str)(u:Value):Prop :=
 (env.kindOf x=some .local/\m x=some u)\/((env.kindOf x=some .cell\/env.kindOf x=some .free)/\∃c,env.cells.lookup x=some c/\h.IsCell c (some u))
structure Cx.Ok(X:Cx):Prop where
 mod:Mod X.K X.mg X.base
 kind:X.env.scope.kind=.function
 glob:X.env.globals=mainGlobals
 blt:X.env.builtins=builtinsNs
 above:X.s₀.heap.objs.size<=X.env.locals
 inj:∀x y c,X.env.cells.lookup x=some c->X.env.cells.lookup y=some c->x=y
 has:∀x,(X.env.kindOf x=some .cell\/X.env.kindOf x=some .free)->∃c,X.env.cells.lookup x=some c
 cab:∀x c,X.fn x=true->X.env.cells.lookup x=some c->X.s₀.heap.objs.size<=c
 hd:X.calm=true->X.A.handled=none
 frames:X.A.frames=some X.stack
 stk:X.stack=X.outer\/(X.stack=X.env::X.outer/\X.env.frame=some X.env.locals)
 exf:∀b∈X.ex,b≠X.env.locals/\∀x c,X.env.cells.lookup x=some c->c≠b
 bs:∀b o,X.base.get? b=some o->X.s₀.heap.get? b=some o/\X.H₀ b=none
 bsz:X.base.objs.size<=X.s₀.heap.objs.size
 noex:∀b o,X.base.get? b=some o->b∉X.ex
 exfs:∀b∈X.ex,b∉X.fs
 funs:X.s₀.heap.FunFrames X.base X.outer
 frf:∀b∈X.fs,X.H₀ b=none
structure Inv(X:Cx)(pins:List (Addr×Obj))(σ:List (Option V))(H:Hp)(s:Shared):Prop where
 ok:X.Ok
 os:s.os=X.s₀.os
 bare:AllBare s.gens
 base:Un X.fs X.ex X.H₀ H X.s₀.heap s.heap
 loc:∃m,s.heap.Ns X.env.locals m/\∀(i:Nat) (x:Str) (v:V),X.N[i]?=some x->σ[i]?=some (some v)->Vis X.env.scope x->∃u,RelV v u/\Qp5 X.env s.heap m x u
 cell:∀x c,X.env.cells.lookup x=some c->∃v,s.heap.IsCell c v
 free:H X.env.locals=none
 freeC:∀x c,X.env.cells.lookup x=some c->H c=none
 pin:∀p∈X.pn++pins,s.heap.get? p.1=some p.2/\H p.1=none/\p.1≠X.env.locals/\p.1∉X.fs/\∀v,p.2.data≠.cell v
 hok:HOk X.prog X.w H s.heap
 len:σ.length=X.N.length
section
variable {X:Cx}{pins:List (Addr×Obj)}{σ:List (Option V)}{H H':Hp}{s:Shared}{h':Heap}
theorem Cx.Ok.nofr(ok:X.Ok){b:Addr}{o:Obj}(e:X.base.get? b=some o):b∉X.fs:=fun hb=>by
 have:=(ok.funs.mem hb).1;rw [e]at this;cases this
theorem Inv.bs(I:Inv X pins σ H s):∀b o,X.base.get? b=some o->s.heap.get? b=some o/\H b=none:=fun b o e =>
 ⟨I.base.keep b o (I.ok.bs b o e).1 (I.ok.bs b o e).2 (I.ok.nofr e) (I.ok.noex b o e),I.base.free b o (I.ok.bs b o e).1 (I.ok.bs b o e).2 (I.ok.noex b o e)⟩
theorem Inv.bk(I:Inv X pins σ H s):∀b o,X.base.get? b=some o->s.heap.get? b=some o:=fun b o e=>(I.bs b o e).1
theorem Inv.mod(I:Inv X pins σ H s):Mod X.K X.mg X.base:=I.ok.mod
theorem Inv.kIn(I:Inv X pins σ H s):X.K.In s.heap:=I.ok.mod.kin.keeps I.bk
theorem Inv.lt(I:Inv X pins σ H s):X.env.locals<s.heap.objs.size:=let ⟨_,hn,_⟩:=I.loc;hn.lt
theorem Inv.sz(I:Inv X pins σ H s):X.s₀.heap.objs.size<=s.heap.objs.size:=Nat.le_trans I.ok.above (Nat.le_of_lt I.lt)
theorem Inv.nofs(I:Inv X pins σ H s){a:Addr}(h:s.heap.objs.size<=a):a∉X.fs:=fun hb=>by
 obtain⟨_,o,ho,_⟩:=I.ok.funs.mem hb;exact absurd (Nat.lt_of_lt_of_le (Heap.lt_size ho) (Nat.le_trans I.sz h)) (Nat.lt_irrefl _)
theorem Inv.cne(I:Inv X pins σ H s):∀x c,X.env.cells.lookup x=some c->c≠X.env.locals:=fun x c e z=>by
 obtain⟨v,o,ho,hd⟩:=I.cell x c e;obtain⟨m,⟨o',es,ep,ho',hd',_⟩,_⟩:=I.loc;rw [z,ho']at ho;cases ho;rw [hd']at hd;cases hd
theorem Inv.funs(I:Inv X pins σ H s):s.heap.FunFrames X.base X.outer:=by
 have all:∀(l:List Env),(∀b∈frs l,b∈X.fs)->X.s₀.heap.FunFrames X.base l->s.heap.FunFrames X.base l:=by
  intro l
  induction l with
  | nil=>intro _ _;trivial
  | cons env r ih =>
   intro hs hl;obtain⟨hk,⟨L,o,hf,hn,ho,hd⟩,hr⟩:=hl
   have hL:L∈X.fs:=hs L (by unfold frs;rw [List.filterMap_cons,hf];exact List.mem_cons_self)
   obtain⟨sl,e⟩:=I.base.slot L o ho (I.ok.frf L hL) hL fun z=>I.ok.exfs L z hL
   exact⟨hk,⟨L,_,hf,hn,e,hd⟩,ih (fun b hb=>hs b (by unfold frs;rw [List.filterMap_cons,hf];exact List.mem_cons_of_mem _ hb)) hr⟩
 exact all X.outer (fun _ hb=>hb) I.ok.funs
theorem Inv.stack(I:Inv X pins σ H s):s.heap.FunFrames X.base X.stack:=by
 rcases I.ok.stk with e | ⟨e,hf⟩
 ·rw [e];exact I.funs
 ·rw [e];obtain⟨m,hn,_⟩:=I.loc
  refine .cons (by rw [I.ok.kind];decide) hf hn ?_ I.funs
  exact Heap.get?_none_of_le (Nat.le_trans I.ok.bsz I.ok.above)
theorem Inv.stkSub(I:Inv X pins σ H s):∀b∈frs X.stack,b∈X.env.locals::X.fs:=fun b hb=>by
 rcases I.ok.stk with e | ⟨e,hf⟩
 ·rw [e]at hb;exact List.mem_cons_of_mem _ hb
 ·rw [e]at hb;unfold frs at hb;rw [List.filterMap_cons,hf]at hb;exact hb
theorem Inv.stkFree(I:Inv X pins σ H s):∀b∈frs X.stack,H b=none:=fun b hb=>by
 rcases List.mem_cons.mp (I.stkSub b hb)with e | hb
 ·rw [e];exact I.free
 ·obtain⟨_,o,ho,_⟩:=I.ok.funs.mem hb;exact I.base.free b o ho (I.ok.frf b hb) fun z=>I.ok.exfs b z hb
theorem Inv.step{g':Array GenState}{t':Nat}{d':Drawn}{ch:List Addr}(I:Inv X pins σ H s)
  (hch:∀b∈ch,(b∈X.ex\/X.s₀.heap.objs.size<=b)/\b≠X.env.locals/\(∀x c,X.env.cells.lookup x=some c->c≠b)/\∀p∈X.pn++pins,p.1≠b)
  (keep:∀b o,b≠X.env.locals->b∉X.fs->b∉ch->s.heap.get? b=some o->H b=none->h'.get? b=some o)
  (slot:∀b o,b≠X.env.locals->b∈X.fs->b∉ch->s.heap.get? b=some o->H b=none->∃sl,h'.get? b=some { o with slots:=sl }) (free:∀b o,b∉ch->s.heap.get? b=some o->H b=none->H' b=none)
  (there:∀b o,b∉ch->s.heap.get? b=some o->∃o',h'.get? b=some o')
  (tups:∀b xs,H b=some (.tup xs)->H' b=some (.tup xs)) (frzs:∀b o u,H b=some (.frz o u)->H' b=some (.frz o u)) (tbls:∀b ps,H b=some (.tbl ps)->∃more,H' b=some (.tbl (ps++more)))
  (ns:∀m,s.heap.Ns X.env.locals m->h'.Ns X.env.locals m) (hok:HOk X.prog X.w H' h') (hg:AllBare g'):
  Inv X pins σ H' { s with heap:=h',gens:=g',drawn:=d',toks:=t' }:=by
 have neL:∀b o,X.s₀.heap.get? b=some o->b≠X.env.locals:=fun b o e=>Nat.ne_of_lt (Nat.lt_of_lt_of_le (Heap.lt_size e) I.ok.above)
 have neC:∀b o,X.s₀.heap.get? b=some o->b∉X.ex->b∉ch:=fun b o e hx hb=>by
  rcases (hch b hb).1 with z | z
  ·exact hx z
  ·exact absurd (Nat.lt_of_lt_of_le (Heap.lt_size e) z) (Nat.lt_irrefl _)
 have cellK:∀x c,X.env.cells.lookup x=some c->∀v,s.heap.IsCell c v->h'.IsCell c v:=fun x c e v ⟨o,ho,hd⟩=>by
  have nch:c∉ch:=fun z=>(hch c z).2.2.1 x c e rfl;by_cases hc:c∈X.fs
  ·obtain⟨sl,q⟩:=slot c o (I.cne x c e) hc nch ho (I.freeC x c e);exact⟨_,q,hd⟩
  ·exact⟨o,keep c o (I.cne x c e) hc nch ho (I.freeC x c e),hd⟩
 refine⟨I.ok,I.os,hg,⟨fun b o e n hb hx=>?_,fun b o e n hb hx=>?_,fun b o e n hx=>?_,fun b o e hx=>?_,fun b xs e=>tups b xs (I.base.tups b xs e),fun b o xs e=>frzs b o xs (I.base.frzs b o xs e),fun b ps e=>?_⟩,?_,fun x c e=>?_,?_,fun x c e=>?_,fun p hp=>?_,hok,I.len⟩
 ·exact keep b o (neL b o e) hb (neC b o e hx) (I.base.keep b o e n hb hx) (I.base.free b o e n hx)
 ·obtain⟨sl,e1⟩:=I.base.slot b o e n hb hx;obtain⟨sl',e2⟩:=slot b _ (neL b o e) hb (neC b o e hx) e1 (I.base.free b o e n hx);exact⟨sl',e2⟩
 ·obtain⟨o',e1⟩:=I.base.there b o e hx;exact free b o' (neC b o e hx) e1 (I.base.free b o e n hx)
 ·obtain⟨o',e1⟩:=I.base.there b o e hx;exact there b o' (neC b o e hx) e1
 ·obtain⟨m1,e1⟩:=I.base.tbls b ps e;obtain⟨m2,e2⟩:=tbls b _ e1
  exact⟨m1++m2,by rw [e2,Array.append_assoc]⟩
 ·obtain⟨m,hn,hl⟩:=I.loc;refine⟨m,ns m hn,fun i x v e1 e2 e3=>?_⟩;obtain⟨u,r,l⟩:=hl i x v e1 e2 e3;refine⟨u,r,?_⟩
  rcases l with l | ⟨k,c,e,z⟩
  ·exact .inl l
  ·exact .inr ⟨k,c,e,cellK x c e _ z⟩
 ·obtain⟨v,z⟩:=I.cell x c e;exact⟨v,cellK x c e v z⟩
 ·obtain⟨m,⟨o,_,_,ho,_⟩,_⟩:=I.loc;exact free _ o (fun z=>(hch _ z).2.1 rfl) ho I.free
 ·obtain⟨v,o,ho,hd⟩:=I.cell x c e;exact free c o (fun z=>(hch c z).2.2.1 x c e rfl) ho (I.freeC x c e)
 ·obtain⟨e,n,ne,nf,d⟩:=I.pin p hp;have nch:p.1∉ch:=fun z=>(hch p.1 z).2.2.2 p hp rfl;exact⟨keep p.1 p.2 ne nf nch e n,free p.1 p.2 nch e n,ne,nf,d⟩
theorem Inv.un{t':Nat}(I:Inv X pins σ H s)(u:Un X.fs [] H H' s.heap h')(hok:HOk X.prog X.w H' h'):Inv X pins σ H' { s with heap:=h',toks:=t' }:=by
 obtain⟨m,⟨o,es,ep,ho,r⟩,_⟩:=id I.loc
 obtain⟨sl,hL⟩:=u.any ho I.free (by simp)
 exact I.step (g':=s.gens) (d':=s.drawn) (ch:=[]) (fun _ z=>nomatch z) (fun b o _ hb _ e n=>u.keep b o e n hb (by simp)) (fun b o _ hb _ e n=>u.slot b o e n hb (by simp)) (fun b o _ e n=>u.free b o e n (by simp)) (fun b o _ e=>u.there b o e (by simp)) u.tups u.frzs u.tbls (fun m' hm=>by
  obtain⟨o',es',ep',ho',r'⟩:=hm;rw [ho]at ho';cases ho'
  exact⟨_,es',ep',hL,r'⟩) hok I.bare
theorem Inv.call{g':Array GenState}{t':Nat}{d':Drawn}{ch:List Addr}(I:Inv X pins σ H s)(u:Un (frs X.stack) ch H H' s.heap h')(hok:HOk X.prog X.w H' h')(hg:AllBare g')
  (hch:∀b∈ch,(b∈X.ex\/X.s₀.heap.objs.size<=b)/\b≠X.env.locals/\(∀x c,X.env.cells.lookup x=some c->c≠b)/\∀p∈X.pn++pins,p.1≠b):
  Inv X pins σ H' { s with heap:=h',gens:=g',drawn:=d',toks:=t' }:=by
 obtain⟨m,⟨o,es,ep,ho,r⟩,_⟩:=id I.loc;obtain⟨sl,hL⟩:=u.any ho I.free fun z=>(hch _ z).2.1 rfl
 exact I.step (ch:=ch) hch (fun b o hL hb hc e n=>u.keep b o e n (fun z=>(List.mem_cons.mp (I.stkSub b z)).elim hL hb) hc) (fun b o _ _ hc e n=>u.any e n hc) (fun b o hc e n=>u.free b o e n hc) (fun b o hc e=>u.there b o e hc) u.tups u.frzs u.tbls (fun m' hm=>by
  obtain⟨o',es',ep',ho',r'⟩:=hm;rw [ho]at ho';cases ho'
  exact⟨_,es',ep',hL,r'⟩) hok hg
theorem Inv.turned{t':Nat}{it:Addr}(I:Inv X pins σ H s)(k:∀b o,b≠it->s.heap.get? b=some o->h'.get? b=some o)(hn:H it=none)(hL:it≠X.env.locals)
  (h1:it∈X.ex\/X.s₀.heap.objs.size<=it) (h2:∀x c,X.env.cells.lookup x=some c->c≠it) (h3:∀p∈X.pn++pins,p.1≠it):Inv X pins σ H { s with heap:=h',toks:=t' }:=by
 have nit:∀b u,H b=some u->b≠it:=fun b u e z=>by rw [z,hn]at e;cases e
 refine I.step (g':=s.gens) (d':=s.drawn) (ch:=[it]) (fun b hb=>?_) (fun b o _ _ hc e _=>k b o (fun z=>hc (by simp [z])) e) (fun b o _ _ hc e _=>⟨o.slots,k b o (fun z=>hc (by simp [z])) e⟩) (fun _ _ _ _ n=>n)
  (fun b o hc e=>⟨o,k b o (fun z=>hc (by simp [z])) e⟩) (fun _ _ e=>e) (fun _ _ _ e=>e) (fun b ps e=>⟨#[],by rw [e];simp⟩) (fun m hm=>?_) (fun b u e=>?_) I.bare
 ·have e:b=it:=by simpa using hb
  subst e;exact⟨h1,hL,h2,h3⟩
 ·obtain⟨o,es,ep,ho,r⟩:=hm;exact⟨o,es,ep,k _ o (Ne.symm hL) ho,r⟩
 ·refine(I.hok b u e).stay (fun c v hc q=>k c v ?_ q) (fun _ q=>q) fun _ _ q=>q
  rcases hc with z | z
  ·rw [z];exact nit b u e
  ·exact nit c _ z
theorem Inv.tok(I:Inv X pins σ H s)(t:Nat):Inv X pins σ H { s with toks:=t }:=I.un (h':=s.heap) (t':=t) Un.refl I.hok
theorem Inv.kept{t':Nat}(I:Inv X pins σ H s)(k:∀b u,s.heap.get? b=some u->h'.get? b=some u):Inv X pins σ H { s with heap:=h',toks:=t' }:=I.un (Un.kept k) (I.hok.kept k)
theorem Inv.laid{a:Addr}{o:HO}{t':Nat}(I:Inv X pins σ H s)(k:∀b u,s.heap.get? b=some u->h'.get? b=some u)(hp:s.heap.objs.size<=a)(new:ObjOk X.prog X.w (upd H a o) h' a o):
  Inv X pins σ (upd H a o) { s with heap:=h',toks:=t' }:=I.un (Un.laid k hp (I.hok.fresh hp)) (I.hok.laid k hp new)
theorem Inv.write{x e:Addr}{o:HO}{t':Nat}(I:Inv X pins σ H s)(mu:Mut (H x))(he:e=x\/H e=some (.own x))(k:∀b u,b≠e->s.heap.get? b=some u->h'.get? b=some u)(heo:∃u,h'.get? e=some u)
  (new:ObjOk X.prog X.w (upd H x o) h' x o):Inv X pins σ (upd H x o) { s with heap:=h',toks:=t' }:=I.un (Un.write mu he k heo) (I.hok.write mu he k heo new)
theorem Inv.pins_of{pins':List (Addr×Obj)}(I:Inv X pins σ H s)(h:∀p∈pins',s.heap.get? p.1=some p.2/\H p.1=none/\p.1≠X.env.locals/\p.1∉X.fs/\∀v,p.2.data≠.cell v):Inv X pins' σ H s :=
 ⟨I.ok,I.os,I.bare,I.base,I.loc,I.cell,I.free,I.freeC,fun p hp=>(List.mem_append.mp hp).elim (fun z=>I.pin p (List.mem_append_left _ z)) (h p),I.hok,I.len⟩
theorem QbT{N:List Str}(hN:N.Nodup){i j:Nat}{x:Str}(a:N[i]?=some x)(b:N[j]?=some x):i=j:=by
 obtain⟨h1,e1⟩:=List.getElem?_eq_some_iff.mp a;obtain⟨h2,e2⟩:=List.getElem?_eq_some_iff.mp b;exact(List.getElem_inj hN).mp (e1.trans e2.symm)
theorem Qdm{M:Model}{A:Around}{E:Value->Shared->Prop}{i:Nat}{x:Str}{v:V}{u:Value}{Q:Unit->Shared->Prop}(I:Inv X pins σ H s)(hN:X.N.Nodup)(hi:X.N[i]?=some x)(hx:Loc X.env.scope x)(r:RelV v u)
  (h:∀s',Inv X pins (σ.set i (some v)) H s'->(∃a,Heap.SameBut a s.heap s'.heap/\(a=X.env.locals\/X.env.cells.lookup x=some a))->Q () s') (hf:X.fn x=true\/X.env.scope.names.lookup x=some .local:=by first | exact .inl rfl | exact .inr rfl | assumption):wpAny M A (storeName X.env x u) Q E s:=by
 obtain⟨m,hn,hl⟩:=id I.loc
 have hcls:(X.env.scope.kind==.class||(X.env.scope.kind==.module&&X.env.locals != X.env.globals))=false:=by rw [I.ok.kind];rfl
 have hiσ:i < σ.length:=by rw [I.len];exact(List.getElem?_eq_some_iff.mp hi).1
 have cne:=I.cne
 have tracked:∀{a:Addr} {h':Heap},(∃o,s.heap.get? a=some o/\H a=none)->Heap.SameBut a s.heap h'->HOk X.prog X.w H h':=fun {a h'} ha hs b ob e=>by
  obtain⟨_,_,hfree⟩:=ha;refine(I.hok b ob e).stay (fun c w' hc q=>(hs.2 c ?_).trans q) (fun _ q=>q) fun _ _ q=>q;rintro rfl
  rcases hc with rfl | hc
  ·rw [hfree]at e;cases e
  ·rw [hfree]at hc;cases hc
 rcases hx with hk | hk
 ·refine wpAny_storeName_local hk hn (fun h' hn' hs=>?_) hcls;obtain⟨oL,_,_,hoL,_⟩:=id hn
  refine h _ ⟨I.ok,I.os,I.bare,⟨fun b o e n hb hx=>?_,fun b o e n hb hx=>?_,I.base.free,fun b o e hx=>?_,I.base.tups,I.base.frzs,I.base.tbls⟩,⟨_,hn',fun j y v' e1 e2 e3=>?_⟩,fun y c e=>?_,I.free,I.freeC,fun p hp=>?_,tracked ⟨oL,hoL,I.free⟩ hs,by simpa using I.len⟩ ⟨_,hs,.inl rfl⟩
  ·exact(hs.2 b (Nat.ne_of_lt (Nat.lt_of_lt_of_le (Heap.lt_size e) I.ok.above))).trans (I.base.keep b o e n hb hx)
  ·obtain⟨sl,e1⟩:=I.base.slot b o e n hb hx;exact⟨sl,(hs.2 b (Nat.ne_of_lt (Nat.lt_of_lt_of_le (Heap.lt_size e) I.ok.above))).trans e1⟩
  ·obtain⟨o',e1⟩:=I.base.there b o e hx;exact⟨o',(hs.2 b (Nat.ne_of_lt (Nat.lt_of_lt_of_le (Heap.lt_size e) I.ok.above))).trans e1⟩
  ·by_cases hj:j=i
   ·subst hj;rw [hi]at e1;cases e1;rw [List.getElem?_set_self hiσ]at e2;cases e2
    exact⟨u,r,.inl ⟨hk,by simp⟩⟩
   ·rw [List.getElem?_set_ne (Ne.symm hj)]at e2;obtain⟨u',r',q⟩:=hl j y v' e1 e2 e3;refine⟨u',r',?_⟩
    rcases q with⟨k,e⟩ | ⟨k,c,e,z⟩
    ·refine .inl ⟨k,?_⟩;have:y≠x:=fun e=>hj (QbT hN e1 (e▸hi));simp [this,e]
    ·exact .inr ⟨k,c,e,z.sameBut hs (cne y c e)⟩
  ·obtain⟨w',z⟩:=I.cell y c e;exact⟨w',z.sameBut hs (cne y c e)⟩
  ·obtain⟨e,n,ne,nf,d⟩:=I.pin p hp;exact⟨(hs.2 p.1 ne).trans e,n,ne,nf,d⟩
 ·have hfn:X.fn x=true:=by
   rcases hf with z | z
   ·exact z
   ·rw [z]at hk;cases hk
  obtain⟨c,hc⟩:=I.ok.has x (.inl hk);obtain⟨w',z⟩:=I.cell x c hc;refine wpAny_storeName_cell I.ok.kind hk hc z (fun h' hc' hs=>?_);obtain⟨oc,hoc,hocd⟩:=id z
  refine h { s with heap:=h' } ⟨I.ok,I.os,I.bare,⟨fun b o e n hb hx=>?_,fun b o e n hb hx=>?_,I.base.free,fun b o e hx=>?_,I.base.tups,I.base.frzs,I.base.tbls⟩,⟨m,hn.sameBut hs (Ne.symm (cne x c hc)),fun j y v' e1 e2 e3=>?_⟩,fun y c' e=>?_,I.free,I.freeC,fun p hp=>?_,tracked ⟨oc,hoc,I.freeC x c hc⟩ hs,by simpa using I.len⟩ ⟨c,hs,.inr hc⟩
  ·exact(hs.2 b (Nat.ne_of_lt (Nat.lt_of_lt_of_le (Heap.lt_size e) (I.ok.cab x c hfn hc)))).trans (I.base.keep b o e n hb hx)
  ·obtain⟨sl,e1⟩:=I.base.slot b o e n hb hx;exact⟨sl,(hs.2 b (Nat.ne_of_lt (Nat.lt_of_lt_of_le (Heap.lt_size e) (I.ok.cab x c hfn hc)))).trans e1⟩
  ·obtain⟨o',e1⟩:=I.base.there b o e hx;exact⟨o',(hs.2 b (Nat.ne_of_lt (Nat.lt_of_lt_of_le (Heap.lt_size e) (I.ok.cab x c hfn hc)))).trans e1⟩
  ·by_cases hj:j=i
   ·subst hj;rw [hi]at e1;cases e1;rw [List.getElem?_set_self hiσ]at e2;cases e2;exact⟨u,r,.inr ⟨.inl hk,c,hc,hc'⟩⟩
   ·rw [List.getElem?_set_ne (Ne.symm hj)]at e2;obtain⟨u',r',q⟩:=hl j y v' e1 e2 e3;refine⟨u',r',?_⟩
    rcases q with q | ⟨k,c',e,z'⟩
    ·exact .inl q
    ·refine .inr ⟨k,c',e,z'.sameBut hs ?_⟩;rintro rfl;exact hj (QbT hN e1 (I.ok.inj _ _ _ e hc▸hi))
  ·by_cases hcc:c'=c
   ·subst hcc;exact⟨_,hc'⟩
   ·obtain⟨w2,z2⟩:=I.cell y c' e;exact⟨w2,z2.sameBut hs hcc⟩
  ·obtain⟨e,n,ne,nf,d⟩:=I.pin p hp;refine⟨(hs.2 p.1 ?_).trans e,n,ne,nf,d⟩;intro q;rw [q,hoc]at e;have q':oc=p.2:=Option.some.inj e
   exact d w' (by rw [<-q'];exact hocd)
theorem QbD{M:Model}{A:Around}{E:Value->Shared->Prop}{i:Nat}{x:Str}{v:V}{u:Value}{Q:Unit->Shared->Prop}(I:Inv X pins σ H s)(hN:X.N.Nodup)(hi:X.N[i]?=some x)(hx:Loc X.env.scope x)(r:RelV v u)
  (h:∀s',Inv X pins (σ.set i (some v)) H s'->Q () s') (hf:X.fn x=true\/X.env.scope.names.lookup x=some .local:=by first | exact .inl rfl | exact .inr rfl | assumption):wpAny M A (storeName X.env x u) Q E s :=
 Qdm I hN hi hx r (fun s' I' _=>h s' I') hf
theorem Inv.call'{s':Shared}{ch:List Addr}(I:Inv X pins σ H s)(ho:s'.os=s.os)(u:Un (frs X.stack) ch H H' s.heap s'.heap)(hok:HOk X.prog X.w H' s'.heap)(hg:AllBare s'.gens)
  (hch:∀b∈ch,(b∈X.ex\/X.s₀.heap.objs.size<=b)/\b≠X.env.locals/\(∀x c,X.env.cells.lookup x=some c->c≠b)/\∀p∈X.pn++pins,p.1≠b):Inv X pins σ H' s':=by
 obtain⟨h',g',d',t',o'⟩:=s';have e:o'=s.os:=ho;subst e;exact I.call (g':=g') (t':=t') (d':=d') u hok hg hch
end
noncomputable abbrev XK:=Value->Option Addr->Hp->Prop
noncomputable abbrev St:=List (Option V)
noncomputable abbrev VK:=V->Hp->Prop
noncomputable abbrev TE:=St->Hp->VK->Prop
noncomputable abbrev TT:=St->Hp->(Bool->Hp->Prop)->Prop
noncomputable abbrev TA:=St->Hp->(List V->Hp->Prop)->Prop
structure Ends where
 nx:St->Hp->Prop
 rt:VK
 bk:St->Hp->Prop:=fun _ _=>False
 ct:St->Hp->Prop:=fun _ _=>False
noncomputable abbrev TS:=Ends->St->Hp->Prop
noncomputable def EP(X:Cx)(pins:List (Addr×Obj))(σ:St)(Q:VK)(u:Value)(s':Shared):Prop:=∃v H',Inv X pins σ H' s'/\RelV v u/\Q v H'
noncomputable def TP(X:Cx)(pins:List (Addr×Obj))(σ:St)(Q:Bool->Hp->Prop)(b:Bool)(s':Shared):Prop:=∃H',Inv X pins σ H' s'/\Q b H'
noncomputable def AP(X:Cx)(pins:List (Addr×Obj))(σ:St)(Q:List V->Hp->Prop)(us:List Value)(s':Shared):Prop:=∃vs H',Inv X pins σ H' s'/\Vals vs us/\Q vs H'
noncomputable def SP(X:Cx)(pins:List (Addr×Obj))(D:Ends)(f:Flow)(s':Shared):Prop :=
 match f with
 | .next=>∃σ' H',Inv X pins σ' H' s'/\D.nx σ' H'
 | .brk=>∃σ' H',Inv X pins σ' H' s'/\D.bk σ' H'
 | .cont=>∃σ' H',Inv X pins σ' H' s'/\D.ct σ' H'
 | .ret u=>∃v σ' H',Inv X pins σ' H' s'/\RelV v u/\D.rt v H'
noncomputable def PE(X:Cx)(e:Expr)(t:TE):Prop :=
 ∀(pins:List (Addr×Obj)) (s:Shared) (σ:St) (H:Hp) (Q:VK),Inv X pins σ H s->t σ H Q->wpAny (model X.prog X.w) X.A (eval e X.env) (EP X pins σ Q) X.xe s
noncomputable def PT(X:Cx)(e:Expr)(t:TT):Prop :=
 ∀(pins:List (Addr×Obj)) (s:Shared) (σ:St) (H:Hp) (Q:Bool->Hp->Prop),Inv X pins σ H s->t σ H Q->wpAny (model X.prog X.w) X.A (isTrue e X.env (eval e X.env)) (TP X pins σ Q) X.xe s
noncomputable def PW(X:Cx)(e:Expr)(t:TT):Prop :=
 ∀(whole:Sem Value) (pins:List (Addr×Obj)) (s:Shared) (σ:St) (H:Hp) (Q:Bool->Hp->Prop),Inv X pins σ H s->t σ H Q->wpAny (model X.prog X.w) X.A (isTrue e X.env whole) (TP X pins σ Q) X.xe s
theorem PW.pt{X:Cx}{e:Expr}{t:TT}(h:PW X e t):PT X e t:=h _
noncomputable def PA(X:Cx)(es:List Expr)(t:TA):Prop :=
 ∀(pos:Pos) (pins:List (Addr×Obj)) (s:Shared) (σ:St) (H:Hp) (Q:List V->Hp->Prop),Inv X pins σ H s->t σ H Q->wpAny (model X.prog X.w) X.A (spliced (backTo pos (starEach es X.env))) (AP X pins σ Q) X.xe s
noncomputable def PS(X:Cx)(st:Stmt)(t:TS):Prop :=
 ∀(pins:List (Addr×Obj)) (s:Shared) (σ:St) (H:Hp) (D:Ends),Inv X pins σ H s->t D σ H->wpAny (model X.prog X.w) X.A (exec st X.env) (SP X pins D) X.xe s
noncomputable def PSs(X:Cx)(st:List Stmt)(t:TS):Prop :=
 ∀(pins:List (Addr×Obj)) (s:Shared) (σ:St) (H:Hp) (D:Ends),Inv X pins σ H s->t D σ H->wpAny (model X.prog X.w) X.A (execs st X.env) (SP X pins D) X.xe s
theorem thn{α:Type}{t:Sem α}{Q Q':α->Shared->Prop}{M:Model}{A:Around}{E:Value->Shared->Prop}{s:Shared}(h:wpAny M A t Q E s)(hQ:∀a s,Q a s->Q' a s):wpAny M A t Q' E s:=wpAny_mono h hQ fun _ _ x=>x
end L2
namespace L2
open PySem PySem.Spec PyProof.Rows
section
variable {X:Cx}
noncomputable def QoR(i:Nat):TE:=fun σ H Q=>∃v,σ[i]?=some (some v)/\Q v H
noncomputable def tC(v:V):TE:=fun _ H Q=>Q v H
theorem QkI{i:Nat}{x:Str}{pos:Pos}(hN:X.N[i]?=some x)(hv:Vis X.env.scope x)(hd:(x==("__debug__":Str))=false:=by decide) (hcd:(x==("__classdict__":Str))=false:=by decide):PE X (.Name x pos) (QoR i):=by
 intro pins s σ H Q I h;obtain⟨v,e,h⟩:=h;obtain⟨m,hn,hl⟩:=I.loc;obtain⟨u,r,l⟩:=hl i x v hN e hv;have fin:EP X pins σ Q u s:=⟨v,H,I,r,h⟩
 rcases l with⟨hk,hm⟩ | ⟨hk,c,hc,hcell⟩
 ·exact wpAny_Name (wpAny_loadName_local I.ok.kind hk hn hm fin) hd
 ·rcases hk with hk | hk
  ·exact wpAny_Name (wpAny_loadName_cell I.ok.kind hk hc hcell fin) hd
  ·exact wpAny_Name (wpAny_loadName_free I.ok.kind hk hc hcell fin hcd) hd
theorem QdN{i j pos}:PE X (.Constant (.int i) j pos) (tC (.int i)):=fun _ _ _ H _ I h=>wpAny_Constant_int ⟨.int i,H,I.tok _,⟨_,rfl⟩,h⟩
theorem Qm7{b j pos}:PE X (.Constant (.bool b) j pos) (tC (.bl b)):=fun _ _ _ H _ I h=>Constant_bool ⟨.bl b,H,I,rfl,h⟩
theorem QkM{j pos}:PE X (.Constant .none j pos) (tC .non):=fun _ _ _ H _ I h=>Constant_none ⟨.non,H,I,rfl,h⟩
theorem QgZ{x j pos}:PE X (.Constant (.str x) j pos) (tC (.str x)):=fun _ _ _ H _ I h=>Calls.Constant_str ⟨.str x,H,I.tok _,⟨_,rfl⟩,h⟩
noncomputable def Gl(X:Cx)(x:Str):Prop:=X.env.kindOf x=some .globalImplicit
theorem JC{E:Value->Shared->Prop}{pins:List (Addr×Obj)}{s:Shared}{σ:St}{H:Hp}{x:Str}{u:Value}{pos:Pos}{Q:Value->Shared->Prop}(I:Inv X pins σ H s)(hg:Gl X x)(hm:X.mg x=some u)(h:Q u s)
  (hd:(x==("__debug__":Str))=false:=by decide):wpAny (model X.prog X.w) X.A (eval (.Name x pos) X.env) Q E s :=
 Calls.Name_function_global I.ok.kind hg (Calls.loadGlobal_global (by rw [I.ok.glob];exact I.mod.glob.keeps I.bk) hm h) hd
theorem ZZ{E:Value->Shared->Prop}{pins:List (Addr×Obj)}{s:Shared}{σ:St}{H:Hp}{x:Str}{u:Value}{pos:Pos}{Q:Value->Shared->Prop}(I:Inv X pins σ H s)(hg:Gl X x)(hm:X.mg x=none)(hv:bootBuiltins x=some u)(h:Q u s)
  (hn:x≠"__name__":=by decide) (hd:(x==("__debug__":Str))=false:=by decide):wpAny (model X.prog X.w) X.A (eval (.Name x pos) X.env) Q E s:=by
 obtain⟨mb,h1,h2⟩:=I.mod.blt
 exact Calls.Name_function_global I.ok.kind hg (Calls.loadGlobal_builtin (by rw [I.ok.glob];exact I.mod.glob.keeps I.bk) hm (by rw [I.ok.blt];exact h1.keeps I.bk) ((h2 x hn).trans hv) h) hd
theorem Qa0{x:Str}{v:V}{u:Value}{pos:Pos}(hg:Gl X x)(hm:X.mg x=some u)(r:RelV v u)(hd:(x==("__debug__":Str))=false:=by decide):PE X (.Name x pos) (tC v):=
 fun _ _ _ H _ I h=>JC I hg hm ⟨v,H,I,r,h⟩ hd
theorem Qip{x:Str}{v:V}{u:Value}{pos:Pos}(hg:Gl X x)(hm:X.mg x=none)(hv:bootBuiltins x=some u)(r:RelV v u)(hn:x≠"__name__":=by decide) (hd:(x==("__debug__":Str))=false:=by decide):PE X (.Name x pos) (tC v):=
 fun _ _ _ H _ I h=>ZZ I hg hm hv ⟨v,H,I,r,h⟩ hn hd
variable {a b:Expr}{ta tb:TE}{pos:Pos}
variable {tA tB':TT}{rest:List Expr}
noncomputable def Qo1(t u:TT):TT:=fun σ H Q=>t σ H fun c H1=>if c=true then u σ H1 Q else Q false H1
noncomputable def tOr(t u:TT):TT:=fun σ H Q=>t σ H fun c H1=>if c=true then Q true H1 else u σ H1 Q
noncomputable def QoW(t:TT):TT:=fun σ H Q=>t σ H fun c H1=>Q (!c) H1
theorem Qh5(ha:PT X a tA):PW X (.BoolOp .And [a] pos) tA:=by
 intro wh pins s σ H Q I h;refine isTrue_and (thn (ha pins s σ H Q I h) fun c s1 e=>?_)
 cases c with
 | true=>exact isTrue_and_nil e
 | false=>exact e
theorem Qkw(ha:PT X a tA):PW X (.BoolOp .Or [a] pos) tA:=by
 intro wh pins s σ H Q I h;refine isTrue_or (thn (ha pins s σ H Q I h) fun c s1 e=>?_)
 cases c with
 | false=>exact isTrue_or_nil e
 | true=>exact e
theorem Qkx(ha:PT X a tA)(hb:PW X (.BoolOp .And (b::rest) pos) tB'):PW X (.BoolOp .And (a::b::rest) pos) (Qo1 tA tB'):=by
 intro wh pins s σ H Q I h;refine isTrue_and (thn (ha pins s σ H _ I h) fun c s1 ⟨H1,I1,q1⟩=>?_)
 cases c with
 | true=>exact hb wh pins s1 σ H1 Q I1 q1
 | false=>exact⟨H1,I1,q1⟩
theorem Qm0(ha:PT X a tA)(hb:PW X (.BoolOp .Or (b::rest) pos) tB'):PW X (.BoolOp .Or (a::b::rest) pos) (tOr tA tB'):=by
 intro wh pins s σ H Q I h;refine isTrue_or (thn (ha pins s σ H _ I h) fun c s1 ⟨H1,I1,q1⟩=>?_)
 cases c with
 | true=>exact⟨H1,I1,q1⟩
 | false=>exact hb wh pins s1 σ H1 Q I1 q1
theorem QkA(ha:PT X a tA):PT X (.UnaryOp .Not a pos) (QoW tA):=by
 intro pins s σ H Q I h;exact isTrue_not (ha pins s σ H (fun c H1=>Q (!c) H1) I h)
noncomputable def QmD(ta tb:TE):TE:=fun σ H Q=>ta σ H fun x H1=>∃c,x=.bl c/\if c=true then tb σ H1 Q else Q (.bl false) H1
noncomputable def QoV(ta tb:TE):TE:=fun σ H Q=>ta σ H fun x H1=>∃c,x=.bl c/\if c=true then Q (.bl true) H1 else tb σ H1 Q
theorem Qg0{op}{t:TE}(h:PE X a t):PE X (.BoolOp op [a] pos) t:=fun pins s σ H Q I hw=>BoolOp_one (h pins s σ H Q I hw)
theorem QkP(ha:PE X a ta)(hb:PE X (.BoolOp .And (b::rest) pos) tb):PE X (.BoolOp .And (a::b::rest) pos) (QmD ta tb):=by
 intro pins s σ H Q I h;refine BoolOp_and (thn (ha pins s σ H _ I h) fun v s1 ⟨x,H1,I1,r1,q1⟩=>?_);obtain⟨c,rfl,q1⟩:=q1;cases r1;refine wpAny_truthy_bool ?_
 cases c with
 | true=>exact hb pins s1 σ H1 Q I1 q1
 | false=>exact⟨.bl false,H1,I1,rfl,q1⟩
theorem Qm3(ha:PE X a ta)(hb:PE X (.BoolOp .Or (b::rest) pos) tb):PE X (.BoolOp .Or (a::b::rest) pos) (QoV ta tb):=by
 intro pins s σ H Q I h;refine BoolOp_or (thn (ha pins s σ H _ I h) fun v s1 ⟨x,H1,I1,r1,q1⟩=>?_);obtain⟨c,rfl,q1⟩:=q1;cases r1;refine wpAny_truthy_bool ?_
 cases c with
 | false=>exact hb pins s1 σ H1 Q I1 q1
 | true=>exact⟨.bl true,H1,I1,rfl,q1⟩
noncomputable def tIf(t:TT)(ta tb:TE):TE:=fun σ H Q=>t σ H fun c H1=>if c=true then ta σ H1 Q else tb σ H1 Q
theorem QfZ{c:Expr}(hc:PT X c tA)(ha:PE X a ta)(hb:PE X b tb):PE X (.IfExp c a b pos) (tIf tA ta tb):=by
 intro pins s σ H Q I h;refine wpAny_IfExp (thn (hc pins s σ H _ I h) fun d s1 ⟨H1,I1,q1⟩=>?_)
 cases d with
 | true=>exact ha pins s1 σ H1 Q I1 q1
 | false=>exact hb pins s1 σ H1 Q I1 q1
end
end L2
namespace L2
open PySem PySem.Spec PyProof.Rows
noncomputable def SqL(K:PySem.W.Frag)(H:Hp)(a:Addr)(xs:List V):Prop :=
 Rd H a (.lst xs) \/
  ∃ (o : Obj) (its : Array Value) (n : Nat), K.lookup a = some o /\ o.cls = .type "list" /\ o.dict = none /\ o.data = .seq its n /\ its.size <= sizeLine /\ Vals xs its.toList
noncomputable def SqT(K:PySem.W.Frag)(H:Hp)(a:Addr)(xs:List V):Prop :=
 Rd H a (.tup xs) \/
  ∃ (o : Obj) (its : Array Value) (n : Nat), K.lookup a = some o /\ o.cls = .type "tuple" /\ o.data = .seq its n /\ its.size <= sizeLine /\ Vals xs its.toList
noncomputable def Qp1:Value->Option V
 | .none=>some .non
 | .bool b=>some (.bl b)
 | .int i _=>some (.int i)
 | .str x _=>some (.str x)
 | .bytes b _=>some (.byt b)
 | .float b _=>some (.flt b)
 | .ref a=>some (.ref a)
 | .type n=>some (.ty n)
 | _=>none
theorem RelV.abs{x:V}{u:Value}(r:RelV x u):Qp1 u=some x:=by
 cases x with
 | non=>cases r;rfl
 | bl _=>cases r;rfl
 | int _=>obtain⟨t,rfl⟩:=r;rfl
 | str _=>obtain⟨t,rfl⟩:=r;rfl
 | byt _=>obtain⟨t,rfl⟩:=r;rfl
 | flt _=>obtain⟨t,rfl⟩:=r;rfl
 | ref _=>cases r;rfl
 | ty _=>cases r;rfl
theorem RelV.inj{x y:V}{u:Value}(r:RelV x u)(q:RelV y u):x=y:=Option.some.inj (r.abs.symm.trans q.abs)
theorem Vals.inj:∀{xs ys:List V} {us:List Value},Vals xs us->Vals ys us->xs=ys
 | _,_,_,.nil,.nil=>rfl
 | _,_,_,.cons r t,.cons r' t'=>by rw [r.inj r',Vals.inj t t']
section
variable {X:Cx}{pins:List (Addr×Obj)}{σ:St}{H:Hp}{s:Shared}{a:Addr}{xs ys:List V}
theorem SqL.of{K:PySem.W.Frag}(h:H a=some (.lst xs)):SqL K H a xs:=.inl (.inl h)
theorem SqT.of{K:PySem.W.Frag}(h:H a=some (.tup xs)):SqT K H a xs:=.inl (.inl h)
theorem Inv.list(I:Inv X pins σ H s)(h:SqL X.K H a xs):∃its:List Value,Vals xs its/\PlainL s.heap a its.toArray/\xs.length<=sizeLine:=by
 rcases h with h | ⟨o,its,n,hk,hc,hd,hs,hz,r⟩
 ·obtain⟨z,its,n,r,e⟩:=h.ok I.hok;exact⟨its,r,⟨_,n,e,rfl,rfl,rfl⟩,z⟩
 ·refine⟨its.toList,r,⟨o,n,I.kIn a o hk,hc,hd,by simpa using hs⟩,?_⟩
  have e:=r.length;simp only [Array.length_toList]at e;omega
theorem Inv.tuple(I:Inv X pins σ H s)(h:SqT X.K H a xs):∃its:List Value,Vals xs its/\IsTup s.heap a its.toArray/\xs.length<=sizeLine:=by
 rcases h with h | ⟨o,its,n,hk,hc,hs,hz,r⟩
 ·obtain⟨z,its,r,p⟩:=h.ok I.hok;exact⟨its,r,p,z⟩
 ·refine⟨its.toList,r,⟨o,I.kIn a o hk,hc,n,by simpa using hs⟩,?_⟩
  have e:=r.length;simp only [Array.length_toList]at e;omega
theorem Inv.list_inj(I:Inv X pins σ H s)(h:SqL X.K H a xs)(h':SqL X.K H a ys):xs=ys:=by
 obtain⟨its,r,⟨o,n,e,_,_,d⟩,_⟩:=I.list h;obtain⟨its',r',⟨o',n',e',_,_,d'⟩,_⟩:=I.list h';rw [e]at e';cases e';rw [d]at d';injection d' with d1 _
 have:its=its':=by simpa using congrArg Array.toList d1
 subst this;exact r.inj r'
theorem Inv.tuple_inj(I:Inv X pins σ H s)(h:SqT X.K H a xs)(h':SqT X.K H a ys):xs=ys:=by
 obtain⟨its,r,⟨o,e,_,n,d⟩,_⟩:=I.tuple h;obtain⟨its',r',⟨o',e',_,n',d'⟩,_⟩:=I.tuple h';rw [e]at e';cases e';rw [d]at d';injection d' with d1 _
 have:its=its':=by simpa using congrArg Array.toList d1
 subst this;exact r.inj r'
end
noncomputable abbrev Cx.wish(X:Cx)(E:Value->Shared->Prop):Cx:={ X with xe:=E }
noncomputable abbrev Cx.nox(X:Cx):Cx:=X.wish fun _ _=>False
theorem Cx.Ok.wish{X:Cx}(ok:X.Ok)(E:Value->Shared->Prop):(X.wish E).Ok :=
 ⟨ok.mod,ok.kind,ok.glob,ok.blt,ok.above,ok.inj,ok.has,ok.cab,ok.hd,ok.frames,ok.stk,ok.exf,ok.bs,ok.bsz,ok.noex,ok.exfs,ok.funs,ok.frf⟩
theorem Cx.Ok.unwish{X:Cx}{E:Value->Shared->Prop}(ok:(X.wish E).Ok):X.Ok :=
 ⟨ok.mod,ok.kind,ok.glob,ok.blt,ok.above,ok.inj,ok.has,ok.cab,ok.hd,ok.frames,ok.stk,ok.exf,ok.bs,ok.bsz,ok.noex,ok.exfs,ok.funs,ok.frf⟩
section
variable {X:Cx}{pins:List (Addr×Obj)}{σ:St}{H:Hp}{s:Shared}{E:Value->Shared->Prop}
theorem Inv.wish(I:Inv X pins σ H s)(E:Value->Shared->Prop):Inv (X.wish E) pins σ H s:=⟨I.ok.wish E,I.os,I.bare,I.base,I.loc,I.cell,I.free,I.freeC,I.pin,I.hok,I.len⟩
theorem Inv.unwish(I:Inv (X.wish E) pins σ H s):Inv X pins σ H s:=⟨I.ok.unwish,I.os,I.bare,I.base,I.loc,I.cell,I.free,I.freeC,I.pin,I.hok,I.len⟩
theorem SP.unwish{D:Ends}{f:Flow}{s':Shared}(h:SP (X.wish E) pins D f s'):SP X pins D f s':=by
 cases f with
 | next=>obtain⟨σ',H',I,q⟩:=h;exact⟨σ',H',I.unwish,q⟩
 | brk=>obtain⟨σ',H',I,q⟩:=h;exact⟨σ',H',I.unwish,q⟩
 | cont=>obtain⟨σ',H',I,q⟩:=h;exact⟨σ',H',I.unwish,q⟩
 | ret u=>obtain⟨v,σ',H',I,r,q⟩:=h;exact⟨v,σ',H',I.unwish,r,q⟩
theorem PSs.nox{st:List Stmt}{t:TS}(h:PSs X.nox st t):PSs X st t:=fun pins s σ H D I hw =>
 wpAny_mono (h pins s σ H D (I.wish _) hw) (fun _ _ q=>q.unwish) fun _ _ z=>False.elim z
end
section
variable {X:Cx}{st:Stmt}{rest:List Stmt}{t u:TS}{e:Expr}{te:TE}{pos:Pos}
noncomputable def QhC:TS:=fun D σ H=>D.nx σ H
noncomputable def QoT(t u:TS):TS:=fun D σ H=>t { D with nx:=u D } σ H
theorem Qh7:PSs X [] QhC:=fun _ _ σ H _ I h=>wpAny_execs_nil ⟨σ,H,I,h⟩
theorem QfR(h1:PS X st t)(h2:PSs X rest u):PSs X (st::rest) (QoT t u):=by
 intro pins s σ H D I h;refine wpAny_execs_cons (thn (h1 pins s σ H { D with nx:=u D } I h) fun f s1 q=>?_)
 cases f with
 | next =>
  obtain⟨σ',H',I',q⟩:=q;exact h2 pins s1 σ' H' D I' q
 | ret v=>exact q
 | brk=>exact q
 | cont=>exact q
noncomputable def Qj0:TS:=fun D σ H=>D.bk σ H
noncomputable def QmB:TS:=fun D σ H=>D.ct σ H
theorem Qia:PS X (.Pass pos) QhC:=fun _ _ σ H _ I h=>wpAny_Pass ⟨σ,H,I,h⟩
theorem QfU:PS X (.Break pos) Qj0:=fun _ _ σ H _ I h=>wpAny_Break ⟨σ,H,I,h⟩
theorem QaY:PS X (.Continue pos) QmB:=fun _ _ σ H _ I h=>wpAny_Continue ⟨σ,H,I,h⟩
theorem Inv.quiet{pins:List (Addr×Obj)}{σ:St}{H:Hp}{s:Shared}(I:Inv X pins σ H s):interactive X.env=false:=by simp [interactive,I.ok.kind]
theorem QkC{x j pos pos'}:PS X (.Expr (.Constant (.str x) j pos) pos') QhC:=fun _ s σ H _ I h=>wpAny_Expr (Calls.Constant_str (show SP X _ _ .next { s with toks:=s.toks+1 }from⟨σ,H,I.tok _,h⟩)) I.quiet
noncomputable def Qmz(te:TE):TS:=fun D σ H=>te σ H fun _ H1=>D.nx σ H1
theorem Qib(he:PE X e te)(hs:swapsWith e none pos.line X.env=pure false:=by rfl):PS X (.Expr e pos) (Qmz te):=by
 intro pins s σ H D I h;exact wpAny_Expr_any (thn (he pins s σ H _ I h) fun v s1 ⟨x,H1,I1,r1,q1⟩=>⟨σ,H1,I1,q1⟩) I.quiet hs
noncomputable def QoU(te:TE):TS:=fun D σ H=>te σ H D.rt
theorem QkB(he:PE X e te):PS X (.Return (some e) pos) (QoU te):=by
 intro pins s σ H D I h;exact wpAny_Return_some (thn (he pins s σ H _ I h) fun v s1 ⟨x,H1,I1,r1,q1⟩=>⟨x,σ,H1,I1,r1,q1⟩)
noncomputable def Qmy:TS:=fun D _ H=>D.rt .non H
theorem Qh9:PS X (.Return none pos) Qmy:=fun _ _ σ H _ I h=>wpAny_Return_none ⟨.non,σ,H,I,rfl,h⟩
noncomputable def QoY(c:TT)(t u:TS):TS:=fun D σ H=>c σ H fun b H1=>if b=true then t D σ H1 else u D σ H1
theorem Qm2{c:Expr}{a b:List Stmt}{tc:TT}(hc:PT X c tc)(ha:PSs X a t)(hb:PSs X b u):PS X (.If c a b pos) (QoY tc t u):=by
 intro pins s σ H D I h;refine wpAny_If (thn (hc pins s σ H _ I h) fun d s1 ⟨H1,I1,q1⟩=>?_)
 cases d with
 | true=>exact ha pins s1 σ H1 D I1 q1
 | false=>exact hb pins s1 σ H1 D I1 q1
end
noncomputable abbrev TG:=V->St->Hp->(St->Hp->Prop)->Prop
noncomputable abbrev TGs:=List V->St->Hp->(St->Hp->Prop)->Prop
noncomputable def PG(X:Cx)(target:Expr)(t:TG):Prop :=
 ∀(pins:List (Addr×Obj)) (s:Shared) (σ:St) (H:Hp) (v:V) (u:Value) (Q:St->Hp->Prop),Inv X pins σ H s->RelV v u->t v σ H Q ->
  wpAny (model X.prog X.w) X.A (assign target X.env u) (fun _ s'=>∃σ' H',Inv X pins σ' H' s'/\Q σ' H') X.xe s
noncomputable def PGs(X:Cx)(ts:List Expr)(t:TGs):Prop :=
 ∀(pins:List (Addr×Obj)) (s:Shared) (σ:St) (H:Hp) (vs:List V) (us:List Value) (Q:St->Hp->Prop),Inv X pins σ H s->Vals vs us->t vs σ H Q ->
  wpAny (model X.prog X.w) X.A (assignInOrder ((assignEach ts X.env).map (·.2)) us) (fun _ s'=>∃σ' H',Inv X pins σ' H' s'/\Q σ' H') X.xe s
noncomputable abbrev Qmi:=V->V->V->Hp->(Hp->Prop)->Prop
noncomputable def QjA(X:Cx)(t:Qmi):Prop :=
 ∀(pins:List (Addr×Obj)) (s:Shared) (σ:St) (H:Hp) (o i v:V) (ov iv u:Value) (Q:Hp->Prop),Inv X pins σ H s->RelV o ov->RelV i iv->RelV v u->t o i v H Q ->
  wpAny (model X.prog X.w) X.A (setItem ov iv u) (fun _ s'=>∃H',Inv X pins σ H' s'/\Q H') X.xe s
noncomputable abbrev TIp:=V->V->Hp->VK->Prop
section
variable {X:Cx}{pos:Pos}
noncomputable def Qbc(i:Nat):TG:=fun v σ H Q=>Q (σ.set i (some v)) H
theorem YL{i:Nat}{x:Str}(hN:X.N.Nodup)(hi:X.N[i]?=some x)(hx:Loc X.env.scope x)(hf:X.fn x=true\/X.env.scope.names.lookup x=some .local:=by first | exact .inl rfl | exact .inr rfl | assumption):PG X (.Name x pos) (Qbc i):=by
 intro pins s σ H v u Q I r h;exact wpAny_assign_Name (QbD I hN hi hx r (fun s' I'=>⟨_,H,I',h⟩) hf)
noncomputable def QoJ:TGs:=fun vs σ H Q=>vs=[]/\Q σ H
noncomputable def Qi0(t:TG)(u:TGs):TGs:=fun vs σ H Q=>∃v r,vs=v::r/\t v σ H fun σ' H'=>u r σ' H' Q
theorem QaZ:PGs X [] QoJ:=by
 intro pins s σ H vs us Q I r h;obtain⟨e,h⟩:=h;subst e;cases r;exact assignInOrder_nil ⟨σ,H,I,h⟩
theorem ZB{e:Expr}{es:List Expr}{t:TG}{u:TGs}(h1:PG X e t)(h2:PGs X es u)
  (hs:(assignEach (e::es) X.env).map (·.2)=assign e X.env::(assignEach es X.env).map (·.2):=by rfl):PGs X (e::es) (Qi0 t u):=by
 intro pins s σ H vs us Q I r h;obtain⟨v,vr,e1,h⟩:=h;subst e1
 cases r with
 | cons r rr =>
  rw [hs];refine assignInOrder_cons (thn (h1 pins s σ H _ _ _ I r h) fun _ s1 ⟨σ1,H1,I1,q1⟩=>?_);exact h2 pins s1 σ1 H1 _ _ Q I1 rr q1
noncomputable def QoI(K:PySem.W.Frag)(n:Nat)(t:TGs):TG:=fun v σ H Q=>∃a xs,v=.ref a/\SqT K H a xs/\xs.length=n/\t xs σ H Q
theorem QdM{es:List Expr}{k:Nat}{t:TGs}{n:Nat}(hc:X.calm=true)(h:PGs X es t)
  (hn:(assignEach es X.env).length=n:=by rfl) (hst:(assignEach es X.env).findIdx? (·.1)=none:=by rfl):PG X (.Tuple es k pos) (QoI X.K n t):=by
 intro pins s σ H v u Q I r hw;obtain⟨a,xs,e1,hq,hl,hw⟩:=hw;subst e1;cases r;obtain⟨its,rv,ht,hz⟩:=I.tuple hq
 refine assign_Tuple_tuple (I.ok.hd hc) ht (by simp [hn,<-hl,rv.length]) hst fun h' hx=>?_
 have I1:Inv X pins σ H { s with heap:=h' }:=I.kept (t':=s.toks) fun b o e=>hx b o (Nat.ne_of_lt (Heap.lt_size e)) e
 exact h pins _ σ H xs _ Q I1 (by simpa using rv) hw
noncomputable def Qpo(to ti:TE)(t:Qmi):TG:=fun v σ H Q=>to σ H fun o H1=>ti σ H1 fun i H2=>t o i v H2 fun H3=>Q σ H3
theorem QkH{o i:Expr}{to ti:TE}{t:Qmi}(ho:PE X o to)(hi:PE X i ti)(hs:QjA X t)
  (ha:∀v,assign (.Subscript o i pos) X.env v=(do
   let ov <-holding [v] (eval o X.env);let iv <-holding [v,ov] (eval i X.env)
   standAt pos
   holding [v,ov,iv] (setItem ov iv v)
   release [v,ov,iv] []):=by intro _;rfl):PG X (.Subscript o i pos) (Qpo to ti t):=by
 intro pins s σ H v u Q I r h;rw [ha];refine wpAny_bind (wpAny_holding (thn (ho pins s σ H _ I h) fun ov s1 ⟨x,H1,I1,r1,q1⟩=>?_));refine wpAny_bind (wpAny_holding (thn (hi pins s1 σ H1 _ I1 q1) fun iv s2 ⟨y,H2,I2,r2,q2⟩=>?_));refine wpAny_bind (wpAny_standAt (wpAny_bind (wpAny_holding (thn (hs pins s2 σ H2 x y v ov iv u _ I2 r1 r2 r q2) fun _ s3 ⟨H3,I3,q3⟩=>?_))));exact wpAny_release ⟨σ,H3,I3,q3⟩
noncomputable def Qok(te:TE)(g:TG):TS:=fun D σ H=>te σ H fun x H1=>g x σ H1 D.nx
theorem QgT{tg e:Expr}{te:TE}{g:TG}(he:PE X e te)(hg:PG X tg g)(hs:swapsWithSole [tg] e pos.line X.env=pure false:=by rfl)(hw:swappedStores [tg] e X.env=pure none:=by rfl)
  (h1:(assignEach [tg] X.env).map (·.2)=[assign tg X.env]:=by rfl):PS X (.Assign [tg] e pos) (Qok te g):=by
 intro pins s σ H D I h;refine wpAny_Assign_stores (thn (he pins s σ H _ I h) fun v s1 ⟨x,H1,I1,r1,q1⟩=>?_) hs hw;rw [h1];exact thn (hg pins s1 σ H1 x v _ I1 r1 q1) fun _ s2 q=>q
theorem QbM{i:Nat}{x:Str}{e:Expr}{te:TE}{pos':Pos}(hN:X.N.Nodup)(hi:X.N[i]?=some x)(hx:Loc X.env.scope x)(he:PE X e te)(hs:swapsWith e (some (.Name x pos')) pos.line X.env=pure false:=by rfl)(hf:X.fn x=true\/X.env.scope.names.lookup x=some .local:=by first | exact .inl rfl | exact .inr rfl | assumption):
  PS X (.Assign [.Name x pos'] e pos) (Qok te (Qbc i)):=by
 intro pins s σ H D I h;refine wpAny_Assign_Name (thn (he pins s σ H _ I h) fun v s1 ⟨y,H1,I1,r1,q1⟩=>?_) hs;exact QbD I1 hN hi hx r1 (fun s2 I2=>⟨_,H1,I2,q1⟩) hf
end
section
variable {X:Cx}{pos:Pos}
end
structure It where
 go:Nat->Hp->Prop
 yld:Nat->Hp->V->Hp->Prop
 stop:Nat->Hp->Prop
noncomputable def Qcl(X:Cx)(pins:List (Addr×Obj))(H:Hp)(b:Addr):Prop :=
 H b=none/\b≠X.env.locals/\b∉X.fs/\(b∈X.ex\/X.s₀.heap.objs.size<=b)/\(∀x c,X.env.cells.lookup x=some c->c≠b)/\∀p∈X.pn++pins,p.1≠b
theorem Inv.fpOk{X:Cx}{pins:List (Addr×Obj)}{σ:St}{H H':Hp}{s:Shared}{b:Addr}(I:Inv X pins σ H s)(hb:s.heap.objs.size<=b)(hn:H' b=none):Qcl X pins H' b:=by
 refine⟨hn,Nat.ne_of_gt (Nat.lt_of_lt_of_le I.lt hb),I.nofs hb,.inr (Nat.le_trans I.sz hb),fun x c e z=>?_,fun p hp z=>?_⟩
 ·obtain⟨v,q⟩:=I.cell x c e
  exact absurd (Nat.lt_of_lt_of_le q.lt (by rw [z];exact hb)) (Nat.lt_irrefl _)
 ·exact absurd (Nat.lt_of_lt_of_le (Heap.lt_size (I.pin p hp).1) (by rw [z];exact hb)) (Nat.lt_irrefl _)
structure Turn(P:Program)(w:World)(K:PySem.W.Frag)(tg:Expr)(J:It)(fp:List Addr)(it:Addr)(tn:Nat->Heap->Prop):Prop where
 mem:it∈fp
 obj:∀i h,tn i h->∀b∈fp,∃o,h.get? b=some o/\∀v,o.data≠.cell v
 keep:∀i h h',tn i h->(∀b∈fp,∀o,h.get? b=some o->h'.get? b=some o)->tn i h'
 item:∀(X:Cx),X.prog=P->X.w=w->X.K=K->X.calm=true->∀(i:Nat) (pins:List (Addr×Obj)) (s:Shared) (σ:St) (H:Hp) (E:Value->Shared->Prop),Inv X pins σ H s->(∀b∈fp,Qcl X pins H b)->tn i s.heap->J.go i H ->
  wpAny (model P w) X.A (pyNext (.ref it)) (fun r s1=>∃u,r=some u /\
   wpAny (model P w) X.A (letOwnedTupleGo tg (.ref it) u) (fun _ s2=>∃x H',Inv X pins σ H' s2/\RelV x u/\J.yld i H x H'/\tn (i+1) s2.heap/\∀b∈fp,H' b=none) E s1) E s
 done:∀(X:Cx),X.prog=P->X.w=w->X.K=K->X.calm=true->∀(i:Nat) (pins:List (Addr×Obj)) (s:Shared) (σ:St) (H:Hp) (E:Value->Shared->Prop),Inv X pins σ H s->(∀b∈fp,Qcl X pins H b)->tn i s.heap->J.stop i H ->
  wpAny (model P w) X.A (pyNext (.ref it)) (fun r s1=>r=none/\Inv X pins σ H s1) E s
 self:∀(A:Around) (i:Nat) (s:Shared) (Q:Value->Shared->Prop) (E:Value->Shared->Prop),tn i s.heap->Q (.ref it) s->wpAny (model P w) A (pyIter (.ref it)) Q E s
noncomputable abbrev TI:=St->Hp->(It->Hp->Prop)->Prop
noncomputable def PIE(X:Cx)(pins:List (Addr×Obj))(σ:St)(tg:Expr)(R:It->Hp->Prop)(itv:Value)(s2:Shared):Prop :=
 ∃(it:Addr) (fp:List Addr) (tn:Nat->Heap->Prop) (J:It) (H':Hp),itv=.ref it/\Inv X pins σ H' s2/\Turn X.prog X.w X.K tg J fp it tn/\tn 0 s2.heap/\(∀b∈fp,Qcl X pins H' b)/\R J H'
noncomputable def PI(X:Cx)(tg iter:Expr)(wi:TI):Prop :=
 ∀(pins:List (Addr×Obj)) (s:Shared) (σ:St) (H:Hp) (R:It->Hp->Prop),Inv X pins σ H s->wi σ H R ->
  wpAny (model X.prog X.w) X.A (eval iter X.env) (fun v s1=>wpAny (model X.prog X.w) X.A (pyIter v) (PIE X pins σ tg R) X.xe s1) X.xe s
theorem Qbb{M:Model}{A:Around}{E:Value->Shared->Prop}{s:Shared}{tg:Expr}{it:Addr}{u:Value}{o:Obj}{n:String}{vs:Array Value}{Q:Unit->Shared->Prop}(ho:s.heap.get? it=some o)(hc:o.cls=.type n)(hd:o.data=.fields vs)
  (hn:["enumerate","zip","dict_itemiterator","dict_reverseitemiterator","odict_iterator","itertools.zip_longest","itertools.pairwise"].contains n=false) (hQ:Q () s):wpAny M A (letOwnedTupleGo tg (.ref it) u) Q E s:=by
 unfold letOwnedTupleGo
 cases tg<;>first
  | exact wpAny_pure hQ
  | (cases u<;>first
    | exact wpAny_pure hQ
    | (refine wpAny_bind (wpAny_load ho ?_)
       rw [hc,hd];show wpAny M A (if(["enumerate","zip","dict_itemiterator","dict_reverseitemiterator","odict_iterator","itertools.zip_longest","itertools.pairwise"].contains n&&vs[0]?==some (rawInt _))=true then _ else _) Q E s
       rw [if_neg (by intro h;rw [hn,Bool.false_and]at h;cases h)]
       exact wpAny_pure hQ))
noncomputable def Itl(K:PySem.W.Frag)(a:Addr):It :=
 ⟨fun i H=>∃xs x,SqL K H a xs/\xs[i]?=some x,fun i H x H'=>H'=H/\∀xs,SqL K H a xs->xs[i]?=some x,fun i H=>∃xs,SqL K H a xs/\xs.length<=i⟩
noncomputable def Itt(K:PySem.W.Frag)(a:Addr):It :=
 ⟨fun i H=>∃xs x,SqT K H a xs/\xs[i]?=some x,fun i H x H'=>H'=H/\∀xs,SqT K H a xs->xs[i]?=some x,fun i H=>∃xs,SqT K H a xs/\xs.length<=i⟩
noncomputable def Itr(lo:Int)(n:Nat):It:=⟨fun i _=>i<n,fun i H x H'=>H'=H/\x=.int (lo+i),fun i _=>n<=i⟩
theorem Qc9{P:Program}{w:World}{K:PySem.W.Frag}{tg:Expr}(a it:Addr):Turn P w K tg (Itl K a) [it] it (fun i h=>h.IsListIter it a i) where
 mem:=by simp
 obj:=fun i h st b hb=>by
  have e:b=it:=by simpa using hb
  subst e;obtain⟨o,e,c,d⟩:=st
  exact⟨o,e,fun v z=>by rw [d]at z;cases z⟩
 keep:=fun i h h' st k=>st.at fun o e=>k it (by simp) o e
 item:=by
  intro X hP hw hK hc i pins s σ H E I hf st hg;subst hP hw hK;obtain⟨xs,x,hq,hx⟩:=hg;obtain⟨its,rv,p,hz⟩:=I.list hq;obtain⟨u,hu,ru⟩:=rv.get hx
  obtain⟨f0,f1,f2,f3,f4,f5⟩:=hf it (by simp)
  refine wpAny_pyNext_list_item st p.isList (x:=u) (by simpa using hu) fun h' st' sb=>?_
  have I1:Inv X pins σ H { s with heap:=h' }:=I.turned (t':=s.toks) (fun b o hb e=>(sb.2 b hb).trans e) f0 f1 f3 f4 f5;obtain⟨o,e,c,d⟩:=id st'
  exact⟨u,rfl,Qbb (s:={ s with heap:=h' }) e c d (by decide) ⟨x,H,I1,ru,⟨rfl,fun ys hy=>by rw [I.list_inj hy hq];exact hx⟩,st',fun b hb=>(hf b hb).1⟩⟩
 done:=by
  intro X hP hw hK hc i pins s σ H E I hf st hg;subst hP hw hK;obtain⟨xs,hq,hx⟩:=hg;obtain⟨its,rv,p,hz⟩:=I.list hq
  obtain⟨f0,f1,f2,f3,f4,f5⟩:=hf it (by simp)
  have hl:=rv.length
  exact wpAny_pyNext_list_end (I.ok.hd hc) st p.isList (by simp;omega) fun h' eb=>⟨rfl,I.turned (t':=s.toks) (fun b o hb e=>eb b o hb e) f0 f1 f3 f4 f5⟩
 self:=fun _ _ _ _ _ st h=>wpAny_pyIter_listiter st h
theorem Qcr{P:Program}{w:World}{K:PySem.W.Frag}{tg:Expr}(a it:Addr):Turn P w K tg (Itt K a) [it] it (fun i h=>h.IsTupleIter it a i) where
 mem:=by simp
 obj:=fun i h st b hb=>by
  have e:b=it:=by simpa using hb
  subst e;obtain⟨o,e,c,d⟩:=st
  exact⟨o,e,fun v z=>by rw [d]at z;cases z⟩
 keep:=fun i h h' st k=>st.at fun o e=>k it (by simp) o e
 item:=by
  intro X hP hw hK hc i pins s σ H E I hf st hg;subst hP hw hK;obtain⟨xs,x,hq,hx⟩:=hg;obtain⟨its,rv,p,hz⟩:=I.tuple hq;obtain⟨u,hu,ru⟩:=rv.get hx
  obtain⟨f0,f1,f2,f3,f4,f5⟩:=hf it (by simp)
  refine wpAny_pyNext_tuple_item st (show s.heap.IsTuple a its.toArray from p) (x:=u) (by simpa using hu) fun h' st' sb=>?_
  have I1:Inv X pins σ H { s with heap:=h' }:=I.turned (t':=s.toks) (fun b o hb e=>(sb.2 b hb).trans e) f0 f1 f3 f4 f5;obtain⟨o,e,c,d⟩:=id st'
  exact⟨u,rfl,Qbb (s:={ s with heap:=h' }) e c d (by decide) ⟨x,H,I1,ru,⟨rfl,fun ys hy=>by rw [I.tuple_inj hy hq];exact hx⟩,st',fun b hb=>(hf b hb).1⟩⟩
 done:=by
  intro X hP hw hK hc i pins s σ H E I hf st hg;subst hP hw hK;obtain⟨xs,hq,hx⟩:=hg;obtain⟨its,rv,p,hz⟩:=I.tuple hq
  obtain⟨f0,f1,f2,f3,f4,f5⟩:=hf it (by simp)
  have hl:=rv.length
  exact wpAny_pyNext_tuple_end (I.ok.hd hc) st (show s.heap.IsTuple a its.toArray from p) (by simp;omega) fun h' eb=>⟨rfl,I.turned (t':=s.toks) (fun b o hb e=>eb b o hb e) f0 f1 f3 f4 f5⟩
 self:=fun _ _ _ _ _ st h=>wpAny_pyIter_tupleiter st h
theorem Qcs{P:Program}{w:World}{K:PySem.W.Frag}{tg:Expr}(it:Addr)(lo:Int)(n:Nat):Turn P w K tg (Itr lo n) [it] it (fun i h=>IsRangeIter h it (lo+(i:Nat)*1) ((n:Int) - (i:Nat)) 1) where
 mem:=by simp
 obj:=fun i h st b hb=>by
  have e:b=it:=by simpa using hb
  subst e
  exact⟨_,st,fun v z=>by
   have z':Data.fields _=Data.cell v:=z
   cases z'⟩
 keep:=fun i h h' st k=>k it (by simp) _ st
 item:=by
  intro X hP hw hK hc i pins s σ H E I hf st hg;subst hP hw hK
  obtain⟨f0,f1,f2,f3,f4,f5⟩:=hf it (by simp)
  have W:=Walks.range (prog:=X.prog) (w:=X.w) (I.ok.hd hc) it lo 1 n;refine W.item i s _ _ hg st fun v h' tk hv st' kk=>?_;obtain⟨t,rfl⟩:=hv
  have I1:Inv X pins σ H { s with heap:=h',toks:=tk }:=I.turned (fun b o hb e=>kk b o (by simpa using hb) e) f0 f1 f3 f4 f5
  refine⟨_,rfl,Qbb (s:={ s with heap:=h',toks:=tk }) (n:="range_iterator") st' rfl rfl (by decide) ⟨.int (lo+i),H,I1,⟨t,?_⟩,⟨rfl,rfl⟩,st',fun b hb=>(hf b hb).1⟩⟩
  rw [Int.mul_one]
 done:=by
  intro X hP hw hK hc i pins s σ H E I hf st hg;subst hP hw hK
  obtain⟨f0,f1,f2,f3,f4,f5⟩:=hf it (by simp)
  exact wpAny_pyNext_range_end (I.ok.hd hc) st (by have:n<=i:=hg;omega) fun h' eb=>⟨rfl,I.turned (t':=s.toks) (fun b o hb e=>eb b o hb e) f0 f1 f3 f4 f5⟩
 self:=fun _ _ _ _ _ st h=>wpAny_pyIter_rangeiter st h
end L2
namespace L2
open PySem PySem.Spec PyProof.Rows
section
variable {X:Cx}{tg:Expr}
noncomputable def Qnz(K:PySem.W.Frag)(tl:TE):TI:=fun σ H R=>tl σ H fun x H1=>∃a,x=.ref a/\(∃xs,SqL K H1 a xs)/\R (Itl K a) H1
noncomputable def Qpl(K:PySem.W.Frag)(tl:TE):TI:=fun σ H R=>tl σ H fun x H1=>∃a,x=.ref a/\(∃xs,SqT K H1 a xs)/\R (Itt K a) H1
theorem Qii{l:Expr}{tl:TE}(hl:PE X l tl):PI X tg l (Qnz X.K tl):=by
 intro pins s σ H R I h;refine thn (hl pins s σ H _ I h) fun v s1 ⟨x,H1,I1,r1,q1⟩=>?_;obtain⟨a,e,⟨xs,hq⟩,q⟩:=q1;subst e;cases r1;obtain⟨its,rv,p,hz⟩:=I1.list hq;refine wpAny_pyIter_list p.isList ?_;refine⟨s1.heap.objs.size,[s1.heap.objs.size],_,_,H1,rfl,I1.kept (t':=s1.toks) fun b o e=>Heap.get?_push_of_some _ e,Qc9 a _,⟨_,Heap.get?_push_size _ rfl,rfl,rfl⟩,fun b hb=>?_,q⟩
 have e:b=s1.heap.objs.size:=by simpa using hb
 subst e;exact I1.fpOk (Nat.le_refl _) (I1.hok.fresh (Nat.le_refl _))
theorem QkD{l:Expr}{tl:TE}(hl:PE X l tl):PI X tg l (Qpl X.K tl):=by
 intro pins s σ H R I h;refine thn (hl pins s σ H _ I h) fun v s1 ⟨x,H1,I1,r1,q1⟩=>?_;obtain⟨a,e,⟨xs,hq⟩,q⟩:=q1;subst e;cases r1;obtain⟨its,rv,p,hz⟩:=I1.tuple hq;refine wpAny_pyIter_tuple (show s1.heap.IsTuple a its.toArray from p) ?_;refine⟨s1.heap.objs.size,[s1.heap.objs.size],_,_,H1,rfl,I1.kept (t':=s1.toks) fun b o e=>Heap.get?_push_of_some _ e,Qcr a _,⟨_,Heap.get?_push_size _ rfl,rfl,rfl⟩,fun b hb=>?_,q⟩
 have e:b=s1.heap.objs.size:=by simpa using hb
 subst e;exact I1.fpOk (Nat.le_refl _) (I1.hok.fresh (Nat.le_refl _))
theorem QbI{pins:List (Addr×Obj)}{σ:St}{H:Hp}{s:Shared}{R:It->Hp->Prop}{E:Value->Shared->Prop}{lo hi:Int}{t u v:Tok}{tk:Nat}(I:Inv X pins σ H s)(h1:-(2 ^ 62)<=lo)(h2:lo<2 ^ 62)(h3:-(2 ^ 62)<=hi)(h4:hi<2 ^ 62)
  (q:R (Itr lo (hi-lo).toNat) H):wpAny (model X.prog X.w) X.A (pyIter (.ref s.heap.objs.size)) (PIE X pins σ tg R) E { s with heap:=s.heap.push { cls:=.type "range",data:=.fields #[.int lo t,.int hi u,.int 1 v] },toks:=tk }:=by
 refine wpAny_pyIter_range (IsRange.new ..) (small_one h1 h2 h3 h4) ?_;have I1:Inv X pins σ H { s with heap:=s.heap.push { cls:=.type "range",data:=.fields #[.int lo t,.int hi u,.int 1 v] },toks:=tk }:=I.kept fun b o e=>Heap.get?_push_of_some _ e
 refine⟨(s.heap.push { cls:=.type "range",data:=.fields #[.int lo t,.int hi u,.int 1 v] }).objs.size,[(s.heap.push { cls:=.type "range",data:=.fields #[.int lo t,.int hi u,.int 1 v] }).objs.size],_,_,H,rfl,
  I1.kept (t':=tk) fun b o e=>Heap.get?_push_of_some _ e,Qcs _ lo (hi-lo).toNat,?_,fun b hb=>?_,q⟩
 ·have e1:lo+((0:Nat):Int)*1=lo:=by simp
  have e2:(((hi-lo).toNat:Nat):Int) - ((0:Nat):Int)=Builtin.Range.rangeSize lo hi 1:=by rw [rangeSize_one];split<;>omega
  show IsRangeIter _ _ (lo+((0:Nat):Int)*1) ((((hi-lo).toNat:Nat):Int) - ((0:Nat):Int)) 1;rw [e1,e2];exact Heap.get?_push_size _ rfl
 ·have e:b=(s.heap.push { cls:=.type "range",data:=.fields #[.int lo t,.int hi u,.int 1 v] }).objs.size:=by simpa using hb
  subst e;exact I1.fpOk (Nat.le_refl _) (I1.hok.fresh (Nat.le_refl _))
noncomputable def Qny(ta:TA):TI:=fun σ H R=>ta σ H fun vs H1=>∃j:Int,vs=[.int j]/\-(2 ^ 62)<=j/\j<2 ^ 62/\R (Itr 0 j.toNat) H1
noncomputable def Qnx(ta:TA):TI:=fun σ H R=>ta σ H fun vs H1=>∃i j:Int,vs=[.int i,.int j]/\(-(2 ^ 62)<=i/\i<2 ^ 62/\-(2 ^ 62)<=j/\j<2 ^ 62)/\R (Itr i (j-i).toNat) H1
theorem QdL{a:Expr}{ta:TA}{p pos:Pos}(hg:Gl X "range") (hm:X.mg "range"=none) (ha:PA X [a] ta) (hs:starEach [a] X.env=[(false,eval a X.env)]:=by rfl):PI X tg (.Call (.Name "range" p) [a] [] pos) (Qny ta):=by
 intro pins s σ H R I h;refine Call_ (ZZ I hg hm boot_range (PyProof.Rows.callWith_type1 (thn (ha pos pins s σ H _ I h) fun us s1 ⟨vs,H1,I1,r1,q1⟩=>?_) hs rfl));obtain⟨j,e,q1,q2,q⟩:=q1;subst e
 cases r1 with
 | cons r rr =>
  cases rr;obtain⟨t,rfl⟩:=r
  exact call_range_1 (QbI I1 (by omega) (by omega) q1 q2 (by simpa using q))
theorem QdK{a b:Expr}{ta:TA}{p pos:Pos}(hg:Gl X "range") (hm:X.mg "range"=none) (ha:PA X [a,b] ta) (hs:starEach [a,b] X.env=[(false,eval a X.env),(false,eval b X.env)]:=by rfl) (hs2:starEach [b] X.env=[(false,eval b X.env)]:=by rfl):
  PI X tg (.Call (.Name "range" p) [a,b] [] pos) (Qnx ta):=by
 intro pins s σ H R I h
 refine Call_ (ZZ I hg hm boot_range (PyProof.Rows.callWith_type1 (thn (ha pos pins s σ H _ I h) fun us s1 ⟨vs,H1,I1,r1,q1⟩=>?_) (by rw [hs,hs2]) (by rw [hs2];rfl)))
 obtain⟨i,j,e,⟨q1,q2,q3,q4⟩,q⟩:=q1;subst e
 cases r1 with
 | cons r rr =>
  cases rr with
  | cons r' rr =>
   cases rr;obtain⟨t,rfl⟩:=r;obtain⟨t',rfl⟩:=r';exact call_range_2 (QbI I1 q1 q2 q3 q4 q)
noncomputable def QoZ(wi:TI)(g:TG)(tb:TS):TS:=fun D σ H=>wi σ H fun J H1=>∃W:Nat->Nat->St->Hp->Prop,(∃m,W 0 m σ H1)/\∀i m σ H,W i m σ H ->
 (J.stop i H/\D.nx σ H)\/(J.go i H/\∃N:St->Hp->Prop,(∀σ' H',N σ' H'->∃m',m'<m/\W (i+1) m' σ' H')/\∀x H',J.yld i H x H'->g x σ H' fun σ2 H2=>tb { D with nx:=N,ct:=N,bk:=D.nx } σ2 H2)
noncomputable def YJ(fp:List Addr)(h:Heap):List (Addr×Obj):=fp.filterMap fun b=>(h.get? b).map fun o=>(b,o)
theorem Zg{fp:List Addr}{h:Heap}{b:Addr}{o:Obj}(hb:b∈fp)(e:h.get? b=some o):(b,o)∈YJ fp h:=List.mem_filterMap.mpr ⟨b,hb,by rw [e];rfl⟩
theorem QdV{fp:List Addr}{h:Heap}{p:Addr×Obj}(hp:p∈YJ fp h):p.1∈fp/\h.get? p.1=some p.2:=by
 obtain⟨b,hb,e⟩:=List.mem_filterMap.mp hp
 cases q:h.get? b with
 | none=>rw [q]at e;cases e
 | some o =>
  rw [q]at e;have e':(b,o)=p:=Option.some.inj e;subst e';exact⟨hb,q⟩
theorem Inv.pinned{pins:List (Addr×Obj)}{σ:St}{H:Hp}{s:Shared}{fp:List Addr}(I:Inv X pins σ H s)(hf:∀b∈fp,Qcl X pins H b)(ho:∀b∈fp,∃o,s.heap.get? b=some o/\∀v,o.data≠.cell v):Inv X (pins++YJ fp s.heap) σ H s :=
 I.pins_of fun p hp=>(List.mem_append.mp hp).elim (fun z=>I.pin p (List.mem_append_right _ z)) fun z=>by
  obtain⟨hb,e⟩:=QdV z;obtain⟨f0,f1,f2,_⟩:=hf p.1 hb;obtain⟨o,e',d⟩:=ho p.1 hb;rw [e]at e';cases e';exact⟨e,f0,f1,f2,d⟩
theorem Inv.unpinned{pins pl:List (Addr×Obj)}{σ:St}{H:Hp}{s:Shared}(I:Inv X (pins++pl) σ H s):Inv X pins σ H s:=I.pins_of fun p hp=>I.pin p (List.mem_append_right _ (List.mem_append_left _ hp))
theorem QdC{iter:Expr}{body:List Stmt}{wi:TI}{g:TG}{tb:TS}{pos:Pos}(hp:PassesOwn (model X.prog X.w) X.A X.env X.xe)(hc:X.calm=true)(hi:PI X tg iter wi)(hg:PG X tg g)(hb:PSs X body tb)
  (hs:∀x,foldedSetIterable iter X.env x=pure x:=by intro _;rfl):PS X (.For tg iter body [] pos) (QoZ wi g tb):=by
 intro pins s σ H D I h;refine wpAny_For (thn (hi pins s σ H _ I h) fun v s1 h1=>thn h1 fun itv s2 h2=>?_) hs;obtain⟨it,fp,tn,J,H2,e,I2,T,st2,f2,W,⟨m0,w0⟩,turn⟩:=h2;subst e
 -- what stays true of the iterator's objects through the loop
 have stat:∀{H':Hp},(∀b∈fp,H' b=none)->∀b∈fp,Qcl X pins H' b:=fun hn b hb=>⟨hn b hb,(f2 b hb).2⟩;refine codeAny_forLoop_any (fun n s'=>∃i σ' H',Inv X pins σ' H' s'/\tn i s'.heap/\(∀b∈fp,H' b=none)/\W i n σ' H') ?_ m0 ⟨0,σ,H2,I2,st2,fun b hb=>(f2 b hb).1,w0⟩;rintro n s3 ⟨i,σ3,H3,I3,st3,fr3,w3⟩
 rcases turn i n σ3 H3 w3 with⟨stop,qn⟩ | ⟨go,N,hN,step⟩
 ·refine wpAny_passesOwn hp (thn (T.done X rfl rfl rfl hc i pins s3 σ3 H3 X.xe I3 (stat fr3) st3 stop) fun r s4 ⟨hr,I4⟩=>?_);subst hr;exact wpAny_execs_nil ⟨σ3,H3,I4,qn⟩
 ·refine wpAny_passesOwn hp (thn (T.item X rfl rfl rfl hc i pins s3 σ3 H3 X.xe I3 (stat fr3) st3 go) fun r s4 ⟨u,hr,h4⟩=>?_);subst hr;refine wpAny_passesOwn hp (thn h4 fun _ s5 ⟨x,H5,I5,r5,y5,st5,fr5⟩=>?_);have I5':=I5.pinned (stat fr5) (T.obj _ _ st5);refine wpAny_passesOwn hp (thn (hg _ s5 σ3 H5 x u _ I5' r5 (step x H5 y5)) fun _ s6 ⟨σ6,H6,I6,q6⟩=>?_);refine wpAny_passesOwn hp (thn (hb _ s6 σ6 H6 _ I6 q6) fun f s7 q7=>?_)
  have again:∀{σ7:St} {H7:Hp},Inv X (pins++YJ fp s5.heap) σ7 H7 s7->N σ7 H7->∃m,m<n/\∃i σ' H',Inv X pins σ' H' s7/\tn i s7.heap/\(∀b∈fp,H' b=none)/\W i m σ' H':=fun {σ7 H7} I7 n7=>by
   obtain⟨m',hm,w7⟩:=hN σ7 H7 n7;refine⟨m',hm,i+1,σ7,H7,I7.unpinned,T.keep _ _ _ st5 fun b hb o e=>(I7.pin (b,o) (List.mem_append_right _ (List.mem_append_right _ (Zg hb e)))).1,fun b hb=>?_,w7⟩;obtain⟨o,e,d⟩:=T.obj _ _ st5 b hb;exact(I7.pin (b,o) (List.mem_append_right _ (List.mem_append_right _ (Zg hb e)))).2.1
  cases f with
  | next=>obtain⟨σ7,H7,I7,n7⟩:=q7;exact again I7 n7
  | cont=>obtain⟨σ7,H7,I7,n7⟩:=q7;exact again I7 n7
  | brk=>obtain⟨σ7,H7,I7,q7⟩:=q7;exact⟨σ7,H7,I7.unpinned,q7⟩
  | ret v=>obtain⟨x7,σ7,H7,I7,r7,q7⟩:=q7;exact⟨x7,σ7,H7,I7.unpinned,r7,q7⟩
end
end L2
namespace L2
open PySem PySem.Spec PyProof.Rows
noncomputable abbrev R2:=V->V->Hp->VK->Prop
noncomputable def OpR(X:Cx)(f:Value->Value->Sem Value)(r:R2):Prop :=
 ∀(pins:List (Addr×Obj)) (s:Shared) (σ:St) (H:Hp) (x y:V) (v u:Value) (Q:VK),Inv X pins σ H s->RelV x v->RelV y u->r x y H Q ->
  wpAny (model X.prog X.w) X.A (f v u) (EP X pins σ Q) X.xe s
noncomputable def UnR(X:Cx)(f:Value->Sem Value)(r:V->Hp->VK->Prop):Prop :=
 ∀(pins:List (Addr×Obj)) (s:Shared) (σ:St) (H:Hp) (x:V) (v:Value) (Q:VK),Inv X pins σ H s->RelV x v->r x H Q ->
  wpAny (model X.prog X.w) X.A (f v) (EP X pins σ Q) X.xe s
noncomputable def CallR(X:Cx)(f:Value)(r:List V->Hp->VK->Prop):Prop :=
 ∀(pins:List (Addr×Obj)) (s:Shared) (σ:St) (H:Hp) (xs:List V) (us:List Value) (Q:VK),Inv X pins σ H s->Vals xs us->r xs H Q ->
  wpAny (model X.prog X.w) X.A (call f us) (EP X pins σ Q) X.xe s
noncomputable def Qp2(X:Cx)(r:V->Hp->(Bool->Hp->Prop)->Prop):Prop :=
 ∀(pins:List (Addr×Obj)) (s:Shared) (σ:St) (H:Hp) (x:V) (v:Value) (Q:Bool->Hp->Prop),Inv X pins σ H s->RelV x v->r x H Q ->
  wpAny (model X.prog X.w) X.A (truthy v) (TP X pins σ Q) X.xe s
noncomputable def tOp(r:R2)(ta tb:TE):TE:=fun σ H Q=>ta σ H fun x H1=>tb σ H1 fun y H2=>r x y H2 Q
noncomputable def tUn(r:V->Hp->VK->Prop)(ta:TE):TE:=fun σ H Q=>ta σ H fun x H1=>r x H1 Q
noncomputable def rI(C:Int->Int->Prop)(g:Int->Int->V):R2:=fun x y H Q=>∃i j,x=.int i/\y=.int j/\C i j/\Q (g i j) H
noncomputable def rI0(g:Int->Int->V):R2:=fun x y H Q=>∃i j,x=.int i/\y=.int j/\Q (g i j) H
noncomputable def rU(g:Int->V):V->Hp->VK->Prop:=fun x H Q=>∃i,x=.int i/\Q (g i) H
section
variable {X:Cx}{a b c:Expr}{ta tb tc:TE}{pos:Pos}
theorem QnX(ha:PE X a ta)(hb:PE X b tb){pins:List (Addr×Obj)}{s:Shared}{σ:St}{H:Hp}{R:V->V->Hp->Prop}(I:Inv X pins σ H s)
  (h:ta σ H fun x H1=>tb σ H1 fun y H2=>R x y H2) {Q:Value->Shared->Prop} {f:Value->Value->Sem Value}
  (hf:∀v u s2 x y H2,Inv X pins σ H2 s2->RelV x v->RelV y u->R x y H2->wpAny (model X.prog X.w) X.A (f v u) Q X.xe s2):
  wpAny (model X.prog X.w) X.A (eval a X.env) (fun v s₁=>wpAny (model X.prog X.w) X.A (eval b X.env) (fun u s₂=>wpAny (model X.prog X.w) X.A (f v u) Q X.xe s₂) X.xe s₁) X.xe s:=by
 refine thn (ha pins s σ H _ I h) fun v s1 ⟨x,H1,I1,r1,q1⟩=>?_;refine thn (hb pins s1 σ H1 _ I1 q1) fun u s2 ⟨y,H2,I2,r2,q2⟩=>?_;exact hf v u s2 x y H2 I2 r1 r2 q2
theorem Qm4{op:Operator}{r:R2}(ho:OpR X (binaryOp op) r)(ha:PE X a ta)(hb:PE X b tb):PE X (.BinOp a op b pos) (tOp r ta tb):=by
 intro pins s σ H Q I h;exact wpAny_BinOp (QnX ha hb I h fun v u s2 x y H2 I2 rx ry q=>ho pins s2 σ H2 x y v u Q I2 rx ry q)
theorem QkJ{op:UnaryOp}{r:V->Hp->VK->Prop}(ho:UnR X (unaryOp op) r)(ha:PE X a ta):PE X (.UnaryOp op a pos) (tUn r ta):=by
 intro pins s σ H Q I h;exact UnaryOp_ (thn (ha pins s σ H _ I h) fun v s1 ⟨x,H1,I1,r1,q1⟩=>ho pins s1 σ H1 x v Q I1 r1 q1)
theorem opI{f:Value->Value->Sem Value}{C:Int->Int->Prop}{g:Int->Int->Int}
  (rule:∀(i j:Int) (t u:Tok) (s:Shared) (Q:Value->Shared->Prop) (E:Value->Shared->Prop),C i j->Q (.int (g i j) s.toks) { s with toks:=s.toks+1 }->wpAny (model X.prog X.w) X.A (f (.int i t) (.int j u)) Q E s):
  OpR X f (rI C fun i j=>.int (g i j)):=by
 intro pins s σ H x y v u Q I rx ry h;obtain⟨i,j,rfl,rfl,hc,q⟩:=h;obtain⟨t,rfl⟩:=rx;obtain⟨t',rfl⟩:=ry;exact rule i j t t' s _ _ hc ⟨.int (g i j),H,I.tok _,⟨_,rfl⟩,q⟩
theorem QoA{f:Value->Value->Sem Value}{g:Int->Int->Int}
  (rule:∀(i j:Int) (t u:Tok) (s:Shared) (Q:Value->Shared->Prop) (E:Value->Shared->Prop),Q (.int (g i j) s.toks) { s with toks:=s.toks+1 }->wpAny (model X.prog X.w) X.A (f (.int i t) (.int j u)) Q E s):
  OpR X f (rI0 fun i j=>.int (g i j)):=by
 intro pins s σ H x y v u Q I rx ry h;obtain⟨i,j,rfl,rfl,q⟩:=h;obtain⟨t,rfl⟩:=rx;obtain⟨t',rfl⟩:=ry;exact rule i j t t' s _ _ ⟨.int (g i j),H,I.tok _,⟨_,rfl⟩,q⟩
theorem Ql8{f:Value->Value->Sem Value}{g:Int->Int->Bool}
  (rule:∀(i j:Int) (t u:Tok) (s:Shared) (Q:Value->Shared->Prop) (E:Value->Shared->Prop),Q (.bool (g i j)) s->wpAny (model X.prog X.w) X.A (f (.int i t) (.int j u)) Q E s):
  OpR X f (rI0 fun i j=>.bl (g i j)):=by
 intro pins s σ H x y v u Q I rx ry h;obtain⟨i,j,rfl,rfl,q⟩:=h;obtain⟨t,rfl⟩:=rx;obtain⟨t',rfl⟩:=ry;exact rule i j t t' s _ _ ⟨.bl (g i j),H,I,rfl,q⟩
noncomputable def Qp7(i j:Int):Prop:=0<=j/\j<=1000000/\i.natAbs<2 ^ 64
noncomputable def CMul(i j:Int):Prop:=(-(2 ^ 64) < i/\i<2 ^ 64)\/(-(2 ^ 64) < j/\j<2 ^ 64)
theorem CMul.ok{i j:Int}(h:CMul i j):IntMulOk i j:=by
 rcases h with⟨h1,h2⟩ | ⟨h1,h2⟩
 ·exact .of_left (intBits_le_64 h1 h2)
 ·exact .of_right (intBits_le_64 h1 h2)
theorem Qk4:OpR X (binaryOp .Add) (rI0 fun i j=>.int (i+j)):=QoA fun _ _ _ _ _ _ _ q=>add_int q
theorem QkR:OpR X (binaryOp .Sub) (rI0 fun i j=>.int (i-j)):=QoA fun _ _ _ _ _ _ _ q=>sub_int q
theorem QkX:OpR X (binaryOp .Mod) (rI (fun _ j=>0<j) fun i j=>.int (i % j)):=opI fun i j _ _ _ _ _ hc q=>by
 have h1:(0:Int) < j:=hc
 exact mod_int' (by omega) (by rw [Int.fmod_eq_emod_of_nonneg i (by omega)];exact q)
theorem QkT:OpR X (binaryOp .Pow) (rI Qp7 fun i j=>.int (i ^ j.toNat)):=opI fun _ _ _ _ _ _ _ hc q=>pow_int_small hc.1 hc.2.1 hc.2.2 q
theorem unI{f:Value->Sem Value}{g:Int->Int}
  (rule:∀(i:Int) (t:Tok) (s:Shared) (Q:Value->Shared->Prop) (E:Value->Shared->Prop),Q (.int (g i) s.toks) { s with toks:=s.toks+1 }->wpAny (model X.prog X.w) X.A (f (.int i t)) Q E s):
  UnR X f (rU fun i=>.int (g i)):=by
 intro pins s σ H x v Q I rx h;obtain⟨i,rfl,q⟩:=h;obtain⟨t,rfl⟩:=rx;exact rule i t s _ _ ⟨.int (g i),H,I.tok _,⟨_,rfl⟩,q⟩
theorem QgJ:UnR X (unaryOp .USub) (rU fun i=>.int (-i)):=unI fun _ _ _ _ _ q=>neg_int q
end
noncomputable def scal:V->V->Bool
 | .non,.non=>true | .non,.int _=>true | .int _,.non=>true | .non,.bl _=>true | .bl _,.non=>true | .non,.str _=>true | .str _,.non=>true
 | .int _,.int _=>true | .bl _,.bl _=>true | .str _,.str _=>true | .byt _,.byt _=>true
 | .int _,.str _=>true | .str _,.int _=>true | .bl _,.str _=>true | .str _,.bl _=>true
 | _,_=>false
noncomputable def rEq:R2:=fun x y H Q=>scal x y=true/\Q (.bl (decide (x=y))) H
noncomputable def rNe:R2:=fun x y H Q=>scal x y=true/\Q (.bl (!decide (x=y))) H
theorem QeJ{i j:Int}:decide (V.int i=V.int j)=(i==j):=by
 rw [Bool.eq_iff_iff];simp
theorem Qhg{i j:Bool}:decide (V.bl i=V.bl j)=(i==j):=by
 rw [Bool.eq_iff_iff];simp
theorem QeI{i j:Str}:decide (V.str i=V.str j)=(i==j):=by
 rw [Bool.eq_iff_iff];simp
theorem QeK{i j:Array UInt8}:decide (V.byt i=V.byt j)=(i.toList==j.toList):=by
 rw [Bool.eq_iff_iff];cases i;cases j;simp
section
variable {X:Cx}{a b c:Expr}{ta tb tc:TE}{pos:Pos}
theorem Qw{pins:List (Addr×Obj)}{σ:St}{H:Hp}{s:Shared}{Q:VK}{k k':Bool}(I:Inv X pins σ H s)(q:Q (.bl k) H)(e:k=k'):EP X pins σ Q (.bool k') s:=by
 subst e;exact⟨.bl k,H,I,rfl,q⟩
theorem Qnd:OpR X (compareOp .Eq) rEq:=by
 intro pins s σ H x y v u Q I rx ry h;obtain⟨hs,q⟩:=h
 cases x with
 | non =>
  cases rx
  cases y with
  | non=>cases ry;exact PySem.EqNone.eq_none_none (Qw I q (by simp))
  | bl j=>cases ry;exact PySem.EqNone.eq_none_bool (Qw I q (by simp))
  | int j=>obtain⟨t',rfl⟩:=ry;exact PySem.EqNone.eq_none_int (Qw I q (by simp))
  | str j=>obtain⟨t',rfl⟩:=ry;exact PySem.EqNone.eq_none_str (Qw I q (by simp))
  | _=>exact absurd (show false=true from hs) Bool.false_ne_true
 | bl i =>
  cases rx
  cases y with
  | non=>cases ry;exact PySem.EqNone.eq_bool_none (Qw I q (by simp))
  | bl j=>cases ry;exact eq_bool (Qw I q Qhg)
  | str j=>obtain⟨t',rfl⟩:=ry;exact PySem.EqMixed.eq_bool_str (Qw I q (by simp))
  | _=>exact absurd (show false=true from hs) Bool.false_ne_true
 | int i =>
  obtain⟨t,rfl⟩:=rx
  cases y with
  | non=>cases ry;exact PySem.EqNone.eq_int_none (Qw I q (by simp))
  | int j=>obtain⟨t',rfl⟩:=ry;exact eq_int (Qw I q QeJ)
  | str j=>obtain⟨t',rfl⟩:=ry;exact PySem.EqMixed.eq_int_str (Qw I q (by simp))
  | _=>exact absurd (show false=true from hs) Bool.false_ne_true
 | str i =>
  obtain⟨t,rfl⟩:=rx
  cases y with
  | non=>cases ry;exact PySem.EqNone.eq_str_none (Qw I q (by simp))
  | bl j=>cases ry;exact PySem.EqMixed.eq_str_bool (Qw I q (by simp))
  | int j=>obtain⟨t',rfl⟩:=ry;exact PySem.EqMixed.eq_str_int (Qw I q (by simp))
  | str j=>obtain⟨t',rfl⟩:=ry;exact eq_str (Qw I q QeI)
  | _=>exact absurd (show false=true from hs) Bool.false_ne_true
 | byt i =>
  obtain⟨t,rfl⟩:=rx
  cases y with
  | byt j=>obtain⟨t',rfl⟩:=ry;exact PySem.W.eq_bytes (Qw I q QeK)
  | _=>exact absurd (show false=true from hs) Bool.false_ne_true
 | _=>cases y<;>exact absurd (show false=true from hs) Bool.false_ne_true
theorem Qm8:OpR X (compareOp .NotEq) rNe:=by
 intro pins s σ H x y v u Q I rx ry h;obtain⟨hs,q⟩:=h
 cases x with
 | non =>
  cases rx
  cases y with
  | non=>cases ry;exact PySem.EqNone.ne_none_none (Qw I q (by simp))
  | bl j=>cases ry;exact PySem.EqNone.ne_none_bool (Qw I q (by simp))
  | int j=>obtain⟨t',rfl⟩:=ry;exact PySem.EqNone.ne_none_int (Qw I q (by simp))
  | str j=>obtain⟨t',rfl⟩:=ry;exact PySem.EqNone.ne_none_str (Qw I q (by simp))
  | _=>exact absurd (show false=true from hs) Bool.false_ne_true
 | bl i =>
  cases rx
  cases y with
  | non=>cases ry;exact PySem.EqNone.ne_bool_none (Qw I q (by simp))
  | bl j=>cases ry;exact ne_bool (Qw I q (congrArg not Qhg))
  | str j=>obtain⟨t',rfl⟩:=ry;exact PySem.EqMixed.ne_bool_str (Qw I q (by simp))
  | _=>exact absurd (show false=true from hs) Bool.false_ne_true
 | int i =>
  obtain⟨t,rfl⟩:=rx
  cases y with
  | non=>cases ry;exact PySem.EqNone.ne_int_none (Qw I q (by simp))
  | int j=>obtain⟨t',rfl⟩:=ry;exact ne_int (Qw I q (congrArg not QeJ))
  | str j=>obtain⟨t',rfl⟩:=ry;exact PySem.EqMixed.ne_int_str (Qw I q (by simp))
  | _=>exact absurd (show false=true from hs) Bool.false_ne_true
 | str i =>
  obtain⟨t,rfl⟩:=rx
  cases y with
  | non=>cases ry;exact PySem.EqNone.ne_str_none (Qw I q (by simp))
  | bl j=>cases ry;exact PySem.EqMixed.ne_str_bool (Qw I q (by simp))
  | int j=>obtain⟨t',rfl⟩:=ry;exact PySem.EqMixed.ne_str_int (Qw I q (by simp))
  | str j=>obtain⟨t',rfl⟩:=ry;exact ne_str (Qw I q (congrArg not QeI))
  | _=>exact absurd (show false=true from hs) Bool.false_ne_true
 | byt i =>
  obtain⟨t,rfl⟩:=rx
  cases y with
  | byt j=>obtain⟨t',rfl⟩:=ry;exact PySem.W.ne_bytes (Qw I q (congrArg not QeK))
  | _=>exact absurd (show false=true from hs) Bool.false_ne_true
 | _=>cases y<;>exact absurd (show false=true from hs) Bool.false_ne_true
theorem Qm9:OpR X (compareOp .Lt) (rI0 fun i j=>.bl (decide (i<j))):=Ql8 fun _ _ _ _ _ _ _ q=>lt_int q
theorem Qna:OpR X (compareOp .LtE) (rI0 fun i j=>.bl (decide (i<=j))):=Ql8 fun _ _ _ _ _ _ _ q=>le_int q
theorem Qnb:OpR X (compareOp .Gt) (rI0 fun i j=>.bl (decide (j<i))):=Ql8 fun _ _ _ _ _ _ _ q=>gt_int q
theorem Qnc:OpR X (compareOp .GtE) (rI0 fun i j=>.bl (decide (j<=i))):=Ql8 fun _ _ _ _ _ _ _ q=>ge_int q
theorem QdS:OpR X (compareOp .In) (fun x y H Q=>∃i j,x=.str i/\y=.str j/\Q (.bl (!(Builtin.Str.occurrences j i 0 j.length 1).isEmpty)) H):=by
 intro pins s σ H x y v u Q I rx ry h;obtain⟨i,j,rfl,rfl,q⟩:=h;obtain⟨t,rfl⟩:=rx;obtain⟨t',rfl⟩:=ry;exact in_str (Qw I q rfl)
theorem QkY:OpR X (compareOp .Is) (fun x y H Q=>y=.non/\Q (.bl (decide (x=.non))) H):=by
 intro pins s σ H x y v u Q I rx ry h;obtain⟨rfl,q⟩:=h;cases ry;refine is_none_gen (Qw I q ?_)
 cases x<;>first
  | (cases rx;rfl)
  | (obtain⟨t,rfl⟩:=rx;rfl)
theorem Qir:OpR X (compareOp .IsNot) (fun x y H Q=>y=.non/\Q (.bl (!decide (x=.non))) H):=by
 intro pins s σ H x y v u Q I rx ry h;obtain⟨rfl,q⟩:=h;cases ry;refine isnot_none_gen (Qw I q ?_)
 cases x<;>first
  | (cases rx;rfl)
  | (obtain⟨t,rfl⟩:=rx;rfl)
theorem Qai:OpR X (compareOp .NotIn) (fun x y H Q=>∃i j,x=.str i/\y=.str j/\Q (.bl (!(!(Builtin.Str.occurrences j i 0 j.length 1).isEmpty))) H):=by
 intro pins s σ H x y v u Q I rx ry h;obtain⟨i,j,rfl,rfl,q⟩:=h;obtain⟨t,rfl⟩:=rx;obtain⟨t',rfl⟩:=ry;exact notIn_str (Qw I q rfl)
theorem OpR.or{f:Value->Value->Sem Value}{r r':R2}(h:OpR X f r)(h':OpR X f r'):OpR X f (fun x y H Q=>r x y H Q\/r' x y H Q):=by
 intro pins s σ H x y v u Q I rx ry q
 rcases q with q | q
 ·exact h pins s σ H x y v u Q I rx ry q
 ·exact h' pins s σ H x y v u Q I rx ry q
theorem Qio{op:CmpOp}{r:R2}(ho:OpR X (compareOp op) r)(ha:PE X a ta)(hb:PE X b tb)(hm:behindInMarks op b=false):PE X (.Compare a [op] [b] pos) (tOp r ta tb):=by
 intro pins s σ H Q I h;exact wpAny_Compare1 (QnX ha hb I h fun v u s2 x y H2 I2 rx ry q=>ho pins s2 σ H2 x y v u Q I2 rx ry q) hm
noncomputable def Qmx(t:TE):TT:=fun σ H Q=>t σ H fun x H'=>∃k,x=.bl k/\Q k H'
theorem Qh6{op:CmpOp}{r:R2}(ho:OpR X (compareOp op) r)(ha:PE X a ta)(hb:PE X b tb)(hm:behindInMarks op b=false):PT X (.Compare a [op] [b] pos) (Qmx (tOp r ta tb)):=by
 intro pins s σ H Q I h
 refine wpAny_isTrue_Compare1 (thn (ha pins s σ H _ I h) fun v s1 ⟨x,H1,I1,r1,q1⟩=>thn (hb pins s1 σ H1 _ I1 q1) fun u s2 ⟨y,H2,I2,r2,q2⟩=>
  thn (ho pins s2 σ H2 x y v u _ I2 r1 r2 q2) fun c s3 ⟨z,H3,I3,r3,k,e,q3⟩=>?_) hm
 subst e;cases r3;exact wpAny_truthy_bool ⟨H3,I3,q3⟩
noncomputable def Ql0(K:PySem.W.Frag)(x:V)(H:Hp)(k:Bool):Prop :=
 match x with
 | .non=>k=false
 | .bl b=>k=b
 | .int i=>k=(i != 0)
 | .str y=>y.length<=sizeLine/\k=((y.length:Int) != 0)
 | .byt y=>y.size<=sizeLine/\k=((y.size:Int) != 0)
 | .ref p=>(∃xs,SqL K H p xs/\k=!xs.isEmpty)\/(∃xs,SqT K H p xs/\k=!xs.isEmpty)\/∃kvs,H p=some (.dK kvs)/\k=!kvs.isEmpty
 | _=>False
theorem QcG{κ:Type}{kvs:List (κ×V)}{vs:List (κ×Value)}(r:KV kvs vs):(!vs.isEmpty)=!kvs.isEmpty:=by
 cases r<;>rfl
theorem Jj{xs:List V}{its:List Value}(r:Vals xs its):(!its.toArray.isEmpty)=!xs.isEmpty:=by
 cases r<;>simp
theorem YN:(sizeLine:Nat) < 2 ^ 63:=by rw [sizeLine_eq];decide
theorem QgL:Qp2 X (fun x H Q=>∃k,Ql0 X.K x H k/\Q k H):=by
 intro pins s σ H x v Q I rx h;obtain⟨k,e,q⟩:=h;have hl:=YN;have hs:sizeLine=16777216:=sizeLine_eq
 cases x with
 | non =>
  cases rx;have e':k=false:=e;subst e';exact truthy_none ⟨H,I,q⟩
 | bl b =>
  cases rx;have e':k=b:=e;subst e';exact wpAny_truthy_bool ⟨H,I,q⟩
 | int i =>
  obtain⟨t,rfl⟩:=rx;have e':k=(i != 0):=e;subst e';exact PySem.P.truthy_int ⟨H,I,q⟩
 | str y =>
  obtain⟨t,rfl⟩:=rx;obtain⟨hy,e'⟩:y.length<=sizeLine/\k=((y.length:Int) != 0):=e;subst e'
  exact PySem.P.truthy_str (by omega) ⟨H,I.tok _,q⟩
 | byt y =>
  obtain⟨t,rfl⟩:=rx;obtain⟨hy,e'⟩:y.size<=sizeLine/\k=((y.size:Int) != 0):=e;subst e'
  exact PySem.W.truthy_bytes (by omega) ⟨H,I.tok _,q⟩
 | ref p =>
  cases rx;have e':(∃xs,SqL X.K H p xs/\k=!xs.isEmpty)\/(∃xs,SqT X.K H p xs/\k=!xs.isEmpty)\/∃kvs,H p=some (.dK kvs)/\k=!kvs.isEmpty:=e
  rcases e' with⟨xs,hx,e'⟩ | ⟨xs,hx,e'⟩ | ⟨kvs,hx,e'⟩
  ·subst e';obtain⟨its,r,pl,hz⟩:=I.list hx;have hlen:=r.length
   exact wpAny_truthy_list pl.isList (by simp only [List.size_toArray];omega) ⟨H,I.tok _,by rw [Jj r];exact q⟩
  ·subst e';obtain⟨its,r,pl,hz⟩:=I.tuple hx;have hlen:=r.length
   exact truthy_tuple pl (by simp only [List.size_toArray];omega) ⟨H,I.tok _,by rw [Jj r];exact q⟩
  ·subst e';obtain⟨hz,hS,vs,r,m⟩:kvs.length<=sizeLine/\(p==sysModules)=false/\∃vs,KV kvs vs/\s.heap.DictOf (Qq X.prog X.w) p vs:=I.hok p _ hx;have hlen:kvs.length=vs.length:=Paired.length r
   exact wpAny_truthy_dict hS m (by omega) ⟨H,I.tok _,by rw [QcG r];exact q⟩
 | _=>exact(show False from e).elim
theorem QfQ(ha:PE X a ta)(he:∀whole,isTrue a X.env whole=(do let v <-whole;standAt a.pos;holding [v] (truthy v))):
  PT X a (fun σ H Q=>ta σ H fun x H'=>∃k,Ql0 X.K x H' k/\Q k H'):=by
 intro pins s σ H Q I h;exact isTrue_plain (thn (ha pins s σ H _ I h) fun v s1 ⟨x,H1,I1,r1,q1⟩=>QgL pins s1 σ H1 x v Q I1 r1 q1) (he _)
theorem QcC:OpR X (binaryOp .Add) (fun x y H Q=>∃i j,x=.str i/\y=.str j/\i.length+j.length<=sizeLine/\Q (.str (i++j)) H):=by
 intro pins s σ H x y v u Q I rx ry h;obtain⟨i,j,rfl,rfl,hz,q⟩:=h;obtain⟨t,rfl⟩:=rx;obtain⟨t',rfl⟩:=ry;exact add_str (fun t' tk=>⟨.str (i++j),H,I.tok _,⟨_,rfl⟩,q⟩) hz
theorem QaN{x:V}{us:List Value}(r:Vals [x] us):∃u,us=[u]/\RelV x u:=by
 cases r with
 | cons r1 r2=>cases r2;exact⟨_,rfl,r1⟩
theorem Qcq{x y:V}{us:List Value}(r:Vals [x,y] us):∃u w',us=[u,w']/\RelV x u/\RelV y w':=by
 cases r with
 | cons r1 r2 =>
  cases r2 with
  | cons r3 r4=>cases r4;exact⟨_,_,rfl,r1,r3⟩
theorem QeX (hc : X.calm = true) : CallR X (.builtin "max") (fun xs H Q => ∃ i j, xs = [.int i, .int j] /\ Q (.int (if j > i then j else i)) H) := by
 intro pins s σ H xs us Q I r h;obtain⟨i,j,rfl,q⟩:=h;obtain⟨u,w',rfl,⟨t,rfl⟩,⟨t',rfl⟩⟩:=Qcq r;refine max_two_ints (I.ok.hd hc) fun h' tk k=>⟨_,H,I.kept k,?_,q⟩;by_cases hj:j>i
 ·rw [if_pos hj,if_pos hj];exact⟨_,rfl⟩
 ·rw [if_neg hj,if_neg hj];exact⟨_,rfl⟩
end
end L2
namespace L2
open PySem PySem.Spec PyProof.Rows
structure ObjM(h:Heap)(x dx C:Addr)(mA:Str->Option Value):Prop where
 obj:h.get? x=some (PySem.W.instObj C dx)
 ns:h.Ns1 dx mA
 ne:dx≠x
theorem Qeb{h:Heap}{dx:Addr}{mA:Str->Option Value}(n:h.Ns1 dx mA):∃od,h.get? dx=some od/\∀name,PySem.W.lookIn name od=some (mA name):=by
 obtain⟨o,es,ep,ho,hd,hk,_,hm⟩:=n;refine⟨o,ho,fun name=>?_⟩;have e:=hm name;unfold nsFind findBy at e;rw [<-Array.find?_toList]at e;unfold PySem.W.lookIn;rw [hd];dsimp only;split
 ·rename_i y q;rw [q]at e;exact congrArg some e
 ·rename_i q;rw [q]at e
  have a:es.toList.any (·.refKey)=false:=by
   rw [List.any_eq_false];intro y hy;obtain⟨z,t,hkey⟩:=hk y (Array.mem_toList_iff.mp hy);simp [DictEntry.refKey,hkey]
  have a':¬es.toList.any (·.refKey)=true:=by rw [a];exact Bool.false_ne_true
  rw [if_neg a'];exact congrArg some e
theorem ObjM.look{h:Heap}{x dx C:Addr}{mA:Str->Option Value}(I:ObjM h x dx C mA):∃od,PySem.W.InstAt h x (PySem.W.instObj C dx) C (some od)/\∀name,PySem.W.lookIn name od=some (mA name):=
 let ⟨od,ho,hl⟩:=Qeb I.ns
 ⟨od,⟨I.obj,rfl,rfl,ho⟩,hl⟩
section
variable {prog:Program}{w:World}{A:Around}{E:Value->Shared->Prop}{s:Shared}{K:PySem.W.Frag}{x dx C f:Addr}{mA:Str->Option Value}{name:Str}{v:Value}
end
theorem RelO.some_of{v:V}{o:Option Value}(r:RelO (some v) o):∃u,o=some u/\RelV v u:=by
 cases o with
 | none=>exact(show False from r).elim
 | some u=>exact⟨u,rfl,r⟩
section
variable {P:Program}{w:World}{H H':Hp}{h h':Heap}{a C dx:Addr}{fs fs':List (Str×V)}
theorem QiV(hok:HOk P w H h)(e:H a=some (.ins C dx fs)):∃mA,ObjM h a dx C mA/\(∀f,RelO (fs.lookup f) (mA f))/\PySem.Within mA (fs.map (·.1))/\fs.length<=1000/\H dx=some (.own a):=by
 obtain⟨d,z,ne,ob,mA,n,r,q⟩:=(show ObjOk P w H h a (.ins C dx fs)from hok a _ e);exact⟨mA,⟨ob,n,ne⟩,r,q,z,d⟩
end
structure Cls(K:PySem.W.Frag)(C:Addr):Prop where
 pg:PySem.W.plainGet K C Str.empty=true
 hd:PySem.W.hasDictIn K C=true
 po:PySem.W.plainOver K C=true
 sa:PySem.W.findIn K (.ref C) "__setattr__"=some (some (.builtin "object.__setattr__"))
theorem Cls.get{K:PySem.W.Frag}{C:Addr}(c:Cls K C)(f:Str):PySem.W.plainGet K C f=true:=c.pg
noncomputable def Ql3(K:PySem.W.Frag)(C:Addr)(f:Str):Prop:=PySem.W.findIn K (.ref C) f=some none
structure Meth(K:PySem.W.Frag)(C:Addr)(m:Str)(f:Addr):Prop where
 at_:PySem.W.findIn K (.ref C) m=some (some (.ref f))
 fn:PySem.W.isFn K (.ref f)=true
 kp:PySem.W.keepIn K (.ref f)=true
section
variable {X:Cx}{pins:List (Addr×Obj)}{σ:St}{H:Hp}{s:Shared}{a C dx:Addr}{fs:List (Str×V)}{f:Str}{v:V}{A:Around}{E:Value->Shared->Prop}
end
section
variable {X:Cx}{o e value:Expr}{f:Str}{pos pos' tpos:Pos}{ta tv:TE}
end
section
variable {X:Cx}{pins:List (Addr×Obj)}{σ:St}{H:Hp}{s:Shared}{A:Around}{E:Value->Shared->Prop}{Q:Value->Shared->Prop}{c:Value}{b:Bool}
inductive TyOf(K:PySem.W.Frag)(H:Hp):V->Value->Prop where
 | non:TyOf K H .non (.type "NoneType")
 | bl (x:Bool):TyOf K H (.bl x) (.type "bool")
 | int (i:Int):TyOf K H (.int i) (.type "int")
 | str (x:Str):TyOf K H (.str x) (.type "str")
 | flt (x:UInt64):TyOf K H (.flt x) (.type "float")
 | lst {a:Addr} {xs:List V} (e:H a=some (.lst xs)):TyOf K H (.ref a) (.type "list")
 | frz {a:Addr} {o:Obj} {xs:List V} (e:H a=some (.frz o (.lst xs))):TyOf K H (.ref a) (.type "list")
 | tup {a:Addr} {xs:List V} (e:H a=some (.tup xs)):TyOf K H (.ref a) (.type "tuple")
 | dK {a:Addr} {kvs:List (Key×V)} (e:H a=some (.dK kvs)):TyOf K H (.ref a) (.type "dict")
 | dT {a:Addr} {kvs:List (List Key×V)} (e:H a=some (.dT kvs)):TyOf K H (.ref a) (.type "dict")
 | ins {a C dx:Addr} {fs:List (Str×V)} (e:H a=some (.ins C dx fs)) (cl:Cls K C) (ha:PySem.W.findIn K (.ref C) "__class__"=some (some (.builtin "object.__class__")))
   (hn:PySem.W.specialIn K (.builtin "object.__class__") "__get__"=some (some (.builtin "getset_descriptor.__get__"))) (htk:PySem.W.takesIn K (.builtin "object.__class__")=some true)
   (hm:PySem.W.mroIn K C (.type "object")=some true):TyOf K H (.ref a) (.ref C)
theorem Qem{x:V}{u t:Value}(I:Inv X pins σ H s)(rx:RelV x u)(ty:TyOf X.K H x t)(e:PySem.W.kitOne X.K t c=some b)(h:∀tk,Q (.bool b) { s with toks:=tk }):
  wpAny (model X.prog X.w) A (call (.builtin "isinstance") [u,c]) Q E s:=by
 cases ty with
 | non=>cases(show u=Value.none from rx);exact PySem.W.kia_one PySem.W.kitx_none I.kIn True.intro e (fun z=>nomatch z) h
 | bl y=>cases(show u=Value.bool y from rx);exact PySem.W.kia_one PySem.W.kitx_bool I.kIn True.intro e (fun z=>nomatch z) h
 | int i=>obtain⟨t,q⟩:=(show ∃t,u=Value.int i t from rx);cases q;exact PySem.W.kia_one PySem.W.kitx_int I.kIn True.intro e (fun z=>nomatch z) h
 | str y=>obtain⟨t,q⟩:=(show ∃t,u=Value.str y t from rx);cases q;exact PySem.W.kia_one PySem.W.kitx_str I.kIn True.intro e (fun z=>nomatch z) h
 | flt y=>obtain⟨t,q⟩:=(show ∃t,u=Value.float y t from rx);cases q;exact PySem.W.kia_one PySem.W.kitx_float I.kIn True.intro e (fun z=>nomatch z) h
 | @lst a xs ea =>
  cases(show u=Value.ref a from rx);obtain⟨_,_,n,_,h1⟩:=(show ObjOk X.prog X.w H s.heap a (.lst xs)from I.hok a _ ea);exact PySem.W.kia_one PySem.W.kitx_list I.kIn ⟨_,h1,rfl⟩ e (fun z=>nomatch z) h
 | @frz a ob xs ea =>
  cases(show u=Value.ref a from rx);obtain⟨_,_,_,n,_,h1⟩:=(show ObjOk X.prog X.w H s.heap a (.frz ob (.lst xs))from I.hok a _ ea);exact PySem.W.kia_one PySem.W.kitx_list I.kIn ⟨_,h1,rfl⟩ e (fun z=>nomatch z) h
 | @tup a xs ea =>
  cases(show u=Value.ref a from rx);obtain⟨_,_,_,p⟩:=(show ObjOk X.prog X.w H s.heap a (.tup xs)from I.hok a _ ea);obtain⟨o,h1,h2,_⟩:=p;exact PySem.W.kia_one PySem.W.kitx_tuple I.kIn ⟨o,h1,h2⟩ e (fun z=>nomatch z) h
 | @dK a kvs ea =>
  cases(show u=Value.ref a from rx);obtain⟨_,_,vs,_,p⟩:=(show ObjOk X.prog X.w H s.heap a (.dK kvs)from I.hok a _ ea);obtain⟨o,es,ep,h1,h2,_⟩:=p;exact PySem.W.kia_one PySem.W.kitx_dict I.kIn ⟨o,h1,h2.1⟩ e (fun z=>nomatch z) h
 | @dT a kvs ea =>
  cases(show u=Value.ref a from rx);obtain⟨_,_,xs,_,o,es,ep,h1,h2,_⟩:=(show ObjOk X.prog X.w H s.heap a (.dT kvs)from I.hok a _ ea);exact PySem.W.kia_one PySem.W.kitx_dict I.kIn ⟨o,h1,h2.1⟩ e (fun z=>nomatch z) h
 | @ins a C dx fs ea cl ha hn htk hm =>
  cases(show u=Value.ref a from rx);obtain⟨mA,O,_⟩:=QiV I.hok ea;obtain⟨od,J,_⟩:=O.look;exact PySem.W.kia_one (PySem.W.kitx_own (cl.get _) cl.hd ha hn htk hm) I.kIn J e (fun z=>nomatch z) h
end
end L2
namespace L2
open PySem PySem.Spec PyProof.Rows
structure Room(k:Nat)(A:Around):Prop where
 hd:A.handled=none
 dp:A.depth+3*k+5<recursionLimit
 un:A.units+16*k+200<cLine
theorem Room.mono{j k:Nat}{A:Around}(r:Room k A)(h:j<=k):Room j A:=⟨r.hd,by have:=r.dp;omega,by have:=r.un;omega⟩
theorem Room.deeper{k:Nat}{A:Around}(r:Room (k+1) A)(env:Env):Room k (A.deeper env):=
 ⟨r.hd,by have:=r.dp;show A.depth+1+3*k+5<_;omega,by have:=r.un;show A.units+3+16*k+200<_;omega⟩
theorem Room.depth{k:Nat}{A:Around}(r:Room k A):A.depth<recursionLimit:=by have:=r.dp;omega
theorem Room.units{k:Nat}{A:Around}(r:Room k A):A.units+64<cLine:=by have:=r.un;omega
noncomputable def Qoj:TA:=fun _ H Q=>Q [] H
noncomputable def QmC(ta:TE)(tr:TA):TA:=fun σ H Q=>ta σ H fun x H1=>tr σ H1 fun xs H2=>Q (x::xs) H2
section
variable {X:Cx}{e:Expr}{es:List Expr}{te:TE}{t:TA}{pos:Pos}
theorem QbQ:PA X [] Qoj:=fun _ _ _ _ H Q I h=>Calls.spliced_nil ⟨[],H,I,.nil,h⟩
theorem Z9(ha:PE X e te)(hr:PA X es t)(hs:starEach (e::es) X.env=(false,eval e X.env)::starEach es X.env:=by rfl):PA X (e::es) (QmC te t):=by
 intro pos pins s σ H Q I h;rw [hs];show wpAny _ _ (spliced ((false,eval e X.env)::backTo pos (starEach es X.env))) _ _ s;refine Calls.spliced_cons (thn (ha pins s σ H _ I h) fun u s1 ⟨x,H1,I1,r1,q1⟩=>?_);exact thn (hr pos pins s1 σ H1 _ I1 q1) fun us s2 ⟨xs,H2,I2,r2,q2⟩=>⟨x::xs,H2,I2,.cons r1 r2,q2⟩
noncomputable def QoS(t:TA):TE:=fun σ H Q=>t σ H fun xs H1=>xs.length<=sizeLine/\∀p,H1 p=none->Q (.ref p) (upd H1 p (.tup xs))
noncomputable def QoX(t:TA):TE:=fun σ H Q=>t σ H fun xs H1=>xs.length<=sizeLine/\∀p,H1 p=none->Q (.ref p) (upd H1 p (.lst xs))
theorem QkK{x1}(h:PA X es t):PE X (.Tuple es x1 pos) (QoS t):=by
 intro pins s σ H Q I hq
 refine wpAny_Tuple_spliced (thn (h pos pins s σ H _ I hq) fun us s1 ⟨xs,H1,I1,r,z,q⟩=>⟨by rw [<-r.length];exact z,?_⟩)
 have hf:H1 s1.heap.objs.size=none:=I1.hok.fresh (Nat.le_refl _);refine⟨.ref s1.heap.objs.size,upd H1 s1.heap.objs.size (.tup xs),I1.laid (t':=s1.toks) (fun b u e=>Heap.get?_push_of_some _ e) (Nat.le_refl _) ?_,rfl,q _ hf⟩;exact⟨z,us,r,⟨_,Heap.get?_push_size _ rfl,rfl,_,rfl⟩⟩
theorem QkN(h:PA X es t):PE X (.List es pos) (QoX t):=by
 intro pins s σ H Q I hq
 refine wpAny_List_spliced (thn (h pos pins s σ H _ I hq) fun us s1 ⟨xs,H1,I1,r,z,q⟩=>⟨by rw [<-r.length];exact z,?_⟩)
 have hf:H1 s1.heap.objs.size=none:=I1.hok.fresh (Nat.le_refl _);refine⟨.ref s1.heap.objs.size,upd H1 s1.heap.objs.size (.lst xs),I1.laid (t':=s1.toks) (fun b u e=>Heap.get?_push_of_some _ e) (Nat.le_refl _) ?_,rfl,q _ hf⟩;exact⟨z,us,0,r,Heap.get?_push_size _ rfl⟩
end
noncomputable abbrev Sp:=List V->Hp->VK->XK->Prop
noncomputable abbrev CXT:=List Env->Hp->Shared->XK->Value->Shared->Prop
structure Env0(P:Program)(w:World)(K:PySem.W.Frag)(mg:Str->Option Value)(base:Heap)(A:Around)(outer:List Env)(s:Shared)(H:Hp):Prop where
 frames:A.frames=some outer
 mod:Mod K mg base
 bs:∀b o,base.get? b=some o->s.heap.get? b=some o/\H b=none
 bsz:base.objs.size<=s.heap.objs.size
 funs:s.heap.FunFrames base outer
 frf:∀b∈frs outer,H b=none
 hok:HOk P w H s.heap
 bare:AllBare s.gens
noncomputable def CE(outer:List Env)(P:Program)(w:World)(H:Hp)(s:Shared)(Q:VK)(u:Value)(s':Shared):Prop :=
 ∃v H',s'.os=s.os/\AllBare s'.gens/\Un (frs outer) [] H H' s.heap s'.heap/\HOk P w H' s'.heap/\RelV v u/\Q v H'
noncomputable def CR(CX:CXT)(outer:List Env)(P:Program)(w:World)(H:Hp)(s:Shared)(Q:VK)(E:XK)(r:Result)(s':Shared):Prop :=
 match r with
 | .ok (.ret u)=>CE outer P w H s Q u s'
 | .ok _=>False
 | .error e=>CX outer H s E e s'
structure FnOk(P:Program)(w:World)(K:PySem.W.Frag)(mg:Str->Option Value)(base:Heap)(CX:CXT)(k:Nat)(f:Addr)(fd:FuncData)(ps:List Str)(sp:Sp):Prop where
 len:∀vs H Q E,sp vs H Q E->vs.length=ps.length
 run:∀(A:Around) (outer:List Env) (s:Shared) (H:Hp) (args:Args) (us:List Value) (vs:List V) (Q:VK) (E:XK),Room k A->Env0 P w K mg base A outer s H->BindsTo s fd args (ps.zip us)->Vals vs us->sp vs H Q E ->
  codeAny (model P w) A (.call (.ref f) args) (CR CX outer P w H s Q E) s
theorem FnOk.mono{P:Program}{w:World}{K:PySem.W.Frag}{mg:Str->Option Value}{base:Heap}{CX:CXT}{j k:Nat}{f:Addr}{fd:FuncData}{ps:List Str}{sp:Sp}(F:FnOk P w K mg base CX j f fd ps sp)(h:j<=k):
  FnOk P w K mg base CX k f fd ps sp:=⟨F.len,fun A outer s H args us vs Q E hr=>F.run A outer s H args us vs Q E (hr.mono h)⟩
section
variable {X:Cx}{pins:List (Addr×Obj)}{σ:St}{H:Hp}{s s':Shared}
theorem Inv.env0(I:Inv X pins σ H s):Env0 X.prog X.w X.K X.mg X.base X.A X.stack s H :=
 ⟨I.ok.frames,I.ok.mod,I.bs,Nat.le_trans I.ok.bsz I.sz,I.stack,I.stkFree,I.hok,I.bare⟩
theorem Inv.after{Q:VK}{u:Value}(I:Inv X pins σ H s)(h:CE X.stack X.prog X.w H s Q u s'):EP X pins σ Q u s':=by
 obtain⟨v,H',os,bare,un,hok,r,q⟩:=h;obtain⟨hh,g,d,t,os'⟩:=s';obtain rfl:os'=s.os:=os
 exact⟨v,H',I.call (h':=hh) (g':=g) (d':=d) (t':=t) (ch:=[]) un hok bare (fun b z=>absurd z (by simp)),r,q⟩
end
noncomputable def QfD(sp:Sp)(dvs:List V)(E:XK)(t:TA):TE:=fun σ H Q=>t σ H fun vs H1=>sp (vs++dvs) H1 Q E
noncomputable def Binds(K:PySem.W.Frag)(fd:FuncData)(ps:List Str)(ds:List Value):Prop :=
 ∀(s:Shared) (us:List Value),K.In s.heap->(us++ds).length=ps.length->BindsTo s fd ⟨us,[]⟩ (ps.zip (us++ds))
theorem Binds.all{K:PySem.W.Frag}{fd:FuncData}{ps:List Str}(h:∀us:List Value,us.length=ps.length->bindArgs fd ⟨us,[]⟩=pure (ps.zip us)):Binds K fd ps []:=fun s us _ hl=>by
 rw [List.append_nil]at hl ⊢;exact .of_eq (h us hl)
noncomputable def Qck(CX:CXT)(X:Cx)(E:XK):Prop:=∀(pins:List (Addr×Obj)) (σ:St) (H:Hp) (s:Shared) (e:Value) (s':Shared),Inv X pins σ H s->CX X.stack H s E e s'->X.xe e s'
section
variable {X:Cx}{CX:CXT}{k:Nat}{f C:Addr}{fd:FuncData}{ps:List Str}{sp:Sp}{dvs:List V}{ds:List Value}{E:XK}{x m:Str}{p pos apos:Pos}{e o:Expr}{es:List Expr}{ta:TE}{t:TA}
theorem QgQ{pins:List (Addr×Obj)}{σ:St}{H:Hp}{s:Shared}{Q:VK}{us:List Value}{vs:List V}(F:FnOk X.prog X.w X.K X.mg X.base CX k f fd ps sp)(hr:Room k X.A)(hb:Binds X.K fd ps ds)(hd:Vals dvs ds)(hx:Qck CX X E)
  (I:Inv X pins σ H s) (r:Vals vs us) (h:sp (vs++dvs) H Q E):wpAny (model X.prog X.w) X.A (call (.ref f) us) (EP X pins σ Q) X.xe s:=by
 have r2:Vals (vs++dvs) (us++ds):=r.append hd
 have hl:(us++ds).length=ps.length:=by rw [<-r2.length];exact F.len _ _ _ _ h
 refine wpAny_call (codeAny_mono (F.run X.A X.stack s H ⟨us,[]⟩ (us++ds) (vs++dvs) Q E hr I.env0 (hb s us I.kIn hl) r2 h) fun r s' hq=>?_)
 cases r with
 | error e=>exact hx pins σ H s e s' I hq
 | ok fl =>
  cases fl with
  | ret u=>exact I.after hq
  | next=>exact False.elim hq
  | brk=>exact False.elim hq
  | cont=>exact False.elim hq
theorem QdP(F:FnOk X.prog X.w X.K X.mg X.base CX k f fd ps sp)(hr:Room k X.A)(hg:Gl X x)(hm:X.mg x=some (.ref f))(hk:PySem.W.keepIn X.K (.ref f)=true)(hb:Binds X.K fd ps ds)(hd:Vals dvs ds)(hx:Qck CX X E)
  (ha:PA X (e::es) t) (hdb:(x==("__debug__":Str))=false:=by decide) (he:starEach (e::es) X.env=(false,eval e X.env)::starEach es X.env:=by rfl) (hpl:(backTo pos (starEach es X.env)).any (·.1)=false:=by rfl):
  PE X (.Call (.Name x p) (e::es) [] pos) (QfD sp dvs E t):=by
 intro pins s σ H Q I h;refine wpAny_Call_Name_kw (JC I hg hm ?_ hdb);refine PySem.W.callWith_K (h₀:=X.base) I.ok.mod.kin hk (thn (ha pos pins s σ H _ I h) fun us s1 ⟨vs,H1,I1,r,q⟩=>⟨I1.kIn,?_⟩) he hpl;exact QgQ F hr hb hd hx I1 r q
theorem QbO(F:FnOk X.prog X.w X.K X.mg X.base CX k f fd ps sp)(hr:Room k X.A)(hg:Gl X x)(hm:X.mg x=some (.ref f))(hk:PySem.W.keepIn X.K (.ref f)=true)(hb:Binds X.K fd ps ds)(hd:Vals dvs ds)(hx:Qck CX X E)
  (hdb:(x==("__debug__":Str))=false:=by decide):PE X (.Call (.Name x p) [] [] pos) (QfD sp dvs E Qoj):=by
 intro pins s σ H Q I h;refine wpAny_Call_Name_kw (JC I hg hm ?_ hdb);exact PySem.W.callWith_K0 I.kIn hk (QgQ (us:=[]) F hr hb hd hx I .nil h)
end
section
variable {X:Cx}{CX:CXT}{k:Nat}{f C:Addr}{fd:FuncData}{ps ks:List Str}{sp:Sp}{E:XK}{x m:Str}{p pos apos kpos:Pos}{e o:Expr}{es:List Expr}{kws:List Keyword}{te ta:TE}{t tk:TA}{nm:Option Str}
structure KBinds(K:PySem.W.Frag)(fd:FuncData)(ps ks:List Str)(g:List Value->List Value->List Value)(gV:List V->List V->List V):Prop where
 to:∀(s:Shared) (us ws:List Value),K.In s.heap->(g us ws).length=ps.length->BindsTo s fd ⟨us,ks.zip ws⟩ (ps.zip (g us ws))
 rel:∀{vs:List V} {us:List Value} {zs:List V} {ws:List Value},Vals vs us->Vals zs ws->Vals (gV vs zs) (g us ws)
variable {g:List Value->List Value->List Value}{gV:List V->List V->List V}
end
structure FnScope(N P:List Str)(sc:Scope):Prop where
 kind:sc.kind=.function
 co:sc.isCoroutine=false
 gen:sc.isGenerator=false
 nd:N.Nodup
 pre:N.take P.length=P
 par:∀x∈P,sc.names.lookup x=some .local\/sc.names.lookup x=some .cell
 nofree:∀y∈sc.names,y.2≠.free
theorem QaF{kindOf:Str->Option NameKind}{x:Str}:∀{binds:List (Str×Value)} {m:Str->Option Value},(∀v,(x,v)∉binds)->bindL kindOf binds m x=m x
 | [],_,_=>rfl
 | (n,v)::r,m,h=>by
  unfold bindL;rw [QaF fun w hw=>h w (List.mem_cons_of_mem _ hw)];split
  ·have:x≠n:=by rintro rfl;exact h v List.mem_cons_self
   simp [this]
  ·rfl
theorem QaH{kindOf:Str->Option NameKind}{x:Str}:∀{binds:List (Str×Value)} {m:Str->Option Value},(∀v,(x,v)∉binds)->bindC kindOf binds m x=m x
 | [],_,_=>rfl
 | (n,v)::r,m,h=>by
  unfold bindC;rw [QaH fun w hw=>h w (List.mem_cons_of_mem _ hw)];split
  ·rfl
  ·have:x≠n:=by rintro rfl;exact h v List.mem_cons_self
   simp [this]
theorem QaG{kindOf:Str->Option NameKind}{x:Str}{v:Value}:∀{P:List Str} {vs:List Value} {i:Nat} {m:Str->Option Value},P.Nodup->P[i]?=some x->vs[i]?=some v->kindOf x=some .local ->
  bindL kindOf (P.zip vs) m x=some v
 | [],_,_,_,_,h,_,_=>by simp at h
 | _::_,[],_,_,_,_,h,_=>by simp at h
 | p::P,w::vs,0,m,nd,h1,h2,hk=>by
  simp at h1 h2;subst h1;subst h2;show bindL kindOf ((p,w)::P.zip vs) m p=_;unfold bindL;rw [QaF fun v hv=>(List.nodup_cons.mp nd).1 (List.of_mem_zip hv).1,if_pos hk];simp
 | p::P,w::vs,i+1,m,nd,h1,h2,hk=>by
  show bindL kindOf ((p,w)::P.zip vs) m x=_;unfold bindL
  exact QaG (i:=i) (List.nodup_cons.mp nd).2 (by simpa using h1) (by simpa using h2) hk
theorem QaI{kindOf:Str->Option NameKind}{x:Str}{v:Value}:∀{P:List Str} {vs:List Value} {i:Nat} {m:Str->Option Value},P.Nodup->P[i]?=some x->vs[i]?=some v->kindOf x≠some .local ->
  bindC kindOf (P.zip vs) m x=some v
 | [],_,_,_,_,h,_,_=>by simp at h
 | _::_,[],_,_,_,_,h,_=>by simp at h
 | p::P,w::vs,0,m,nd,h1,h2,hk=>by
  simp at h1 h2;subst h1;subst h2;show bindC kindOf ((p,w)::P.zip vs) m p=_;unfold bindC;rw [QaH fun v hv=>(List.nodup_cons.mp nd).1 (List.of_mem_zip hv).1,if_neg hk];simp
 | p::P,w::vs,i+1,m,nd,h1,h2,hk=>by
  show bindC kindOf ((p,w)::P.zip vs) m x=_;unfold bindC
  exact QaI (i:=i) (List.nodup_cons.mp nd).2 (by simpa using h1) (by simpa using h2) hk
noncomputable def start(N:List Str)(vs:List V):St:=vs.map some++List.replicate (N.length-vs.length) none
noncomputable def Qhh(CX:CXT)(P:Program)(w:World)(K:PySem.W.Frag)(mg:Str->Option Value)(base:Heap)(N:List Str)(qual:Str)(scope:Scope)(f:Addr)(cd:Value)(A:Around)(outer:List Env)(s:Shared)(H:Hp)(E:XK):Cx where
 prog:=P
 w:=w
 K:=K
 mg:=mg
 base:=base
 A:=A.deeper (envOfC qual scope s.heap.objs.size f cd)
 N:=N
 s₀:=s
 H₀:=H
 env:=envOfC qual scope s.heap.objs.size f cd
 outer:=outer
 stack:=envOfC qual scope s.heap.objs.size f cd::outer
 ex:=[]
 calm:=true
 fn:=fun _=>true
 pn:=[]
 xe:=fun e s'=>wpAny (model P w) (A.deeper (envOfC qual scope s.heap.objs.size f cd)) (leaving (envOfC qual scope s.heap.objs.size f cd) e) (fun _ s''=>CX outer H s E e s'') (fun e' s''=>CX outer H s E e' s'') s'
theorem Qci{sc:Scope}{n:Nat}{x:Str}(h:sc.names.lookup x=some .cell):∃c,(cellsFrom n sc.names []).lookup x=some c:=by
 have q:=PySem.W.cellsFrom_some sc.names n [] (.inl h);exact Option.isSome_iff_exists.mp q
theorem Qep{CX:CXT}{P:Program}{w:World}{K:PySem.W.Frag}{mg:Str->Option Value}{base:Heap}{N ps:List Str}{qual:Str}{scope:Scope}{f:Addr}{cd:Value}{A:Around}{outer:List Env}{s s1:Shared}{H:Hp}{E:XK}{us:List Value}{vs:List V}
  (S:FnScope N ps scope) (hd:A.handled=none) (e0:Env0 P w K mg base A outer s H) (hl:vs.length=ps.length) (r:Vals vs us)
  (x:InCallC s s.heap.objs.size (bindL (envOfC qual scope s.heap.objs.size f cd).kindOf (ps.zip us) fun _=>none) (cellsFrom (s.heap.objs.size+1) scope.names []) (bindC (envOfC qual scope s.heap.objs.size f cd).kindOf (ps.zip us) fun _=>none) s1):
  Inv (Qhh CX P w K mg base N qual scope f cd A outer s H E) [] (start N vs) H s1:=by
 have hpl:ps.length<=N.length:=by have:=congrArg List.length S.pre;rw [List.length_take]at this;omega
 obtain⟨h1,tk,rfl,hk⟩:=x.done
 have noA:∀b:Addr,b∉(Qhh CX P w K mg base N qual scope f cd A outer s H E).ex:=fun b z=>absurd (show b∈([]:List Addr)from z) (by simp)
 refine⟨⟨e0.mod,S.kind,rfl,rfl,Nat.le_refl _,fun y z c h1 h2=>?_,fun y hy=>?_,fun y c _ h=>?_,fun _=>hd,Around.frames_deeper e0.frames,.inr ⟨rfl,rfl⟩,fun b z=>absurd z (noA b),e0.bs,e0.bsz,fun b _ _=>noA b,fun b z=>absurd z (noA b),e0.funs,e0.frf⟩,
  rfl,e0.bare,Un.kept hk,⟨_,x.toInCall.ns,fun i y v h1 h2 h3=>?_⟩,fun y c h=>⟨_,x.cell y c h⟩,e0.hok.fresh (Nat.le_refl _),fun y c h=>?_,fun p hp=>absurd (show p∈([]:List (Addr×Obj))from hp) (by simp),e0.hok.kept hk,?_⟩
 ·exact name_of_addr x.apart (PySem.mem_of_lookup h1) (PySem.mem_of_lookup h2)
 ·have hy:scope.names.lookup y=some .cell\/scope.names.lookup y=some .free:=hy
  rcases hy with hy | hy
  ·exact Qci hy
  ·exact absurd rfl (S.nofree _ (PySem.mem_of_lookup hy))
 ·exact Nat.le_of_lt (x.above y c (PySem.mem_of_lookup h))
 ·have hi:i<vs.length:=by
   unfold start at h2;by_cases hi:i<vs.length
   ·exact hi
   ·rw [List.getElem?_append_right (by simpa using hi)]at h2
    rw [List.getElem?_replicate]at h2;split at h2<;>cases h2
  have ha:vs[i]?=some v:=by
   unfold start at h2
   rw [List.getElem?_append_left (by simpa using hi),List.getElem?_map]at h2
   cases e:vs[i]? with
   | none=>rw [e]at h2;cases h2
   | some a=>rw [e]at h2;cases h2;rfl
  obtain⟨u,hu,rv⟩:=r.get ha
  have hp:ps[i]?=some y:=by
   rw [<-S.pre,List.getElem?_take_of_lt (by omega)];exact h1
  have ndP:ps.Nodup:=by rw [<-S.pre];exact S.nd.sublist (List.take_sublist _ _)
  refine⟨u,rv,?_⟩
  rcases S.par y (List.mem_of_getElem? hp)with k | k
  ·exact .inl ⟨k,QaG ndP hp hu k⟩
  ·obtain⟨c,e⟩:=Qci (n:=s.heap.objs.size+1) k;refine .inr ⟨.inl k,c,e,?_⟩;have q:=x.cell y c e
   rw [QaI ndP hp hu (by show scope.names.lookup y≠_;rw [k];decide)]at q
   exact q
 ·exact e0.hok.fresh (Nat.le_of_lt (x.above y c (PySem.mem_of_lookup h)))
 ·unfold start;show _=N.length;rw [List.length_append,List.length_map,List.length_replicate];omega
theorem QnG{CX:CXT}{P:Program}{w:World}{K:PySem.W.Frag}{mg:Str->Option Value}{base:Heap}{k:Nat}{f:Addr}{name qual:Str}{params:Arguments}{body:List Stmt}{scope:Scope}{dV kV doc pm cdv ct oc:Value}{an od:Option Addr}
  {osl:Array (Option Value)} {N ps:List Str} {sp:Sp} (lk:K.lookup f=some ⟨oc,od,.func (PySem.W.fnOf name qual params body scope dV kV doc pm an cdv ct),osl⟩) (hcd:PySem.W.codeIn K cdv qual=true) (S:FnScope N ps scope)
  (len:∀vs H Q E,sp vs H Q E->vs.length=ps.length)
  (hbody:∀(A:Around) (outer:List Env) (s:Shared) (H:Hp) (vs:List V) (Q:VK) (E:XK),Room k (A.deeper (envOfC qual scope s.heap.objs.size f cdv))->sp vs H Q E ->
   ∃t,PSs (Qhh CX P w K mg base N qual scope f cdv A outer s H E) body t/\t { nx:=fun _ H'=>Q .non H',rt:=Q } (start N vs) H):
  FnOk P w K mg base CX (k+1) f (PySem.W.fnOf name qual params body scope dV kV doc pm an cdv ct) ps sp:=by
 refine⟨len,fun A outer s H args us vs Q E hr e0 hb r hsp=>?_⟩;have hl:=len _ _ _ _ hsp;have KX:K.In s.heap:=e0.mod.kin.keeps fun b o e=>(e0.bs b o e).1;have lim:s.heap.NoLimit:=e0.mod.nolimit.keeps fun b o e=>(e0.bs b o e).1
 have hkind:∀y∈ps.zip us,scope.names.lookup y.1=some .local\/(scope.names.lookup y.1=some .cell/\((cellsFrom (s.heap.objs.size+1) scope.names []).lookup y.1).isSome=true):=fun⟨n,v⟩ hy=>by
  rcases S.par n (List.of_mem_zip hy).1 with q | q
  ·exact .inl q
  ·exact .inr ⟨q,PySem.W.cellsFrom_some _ _ _ (.inl q)⟩
 refine codeAny_call_function hr.depth (KX _ _ lk) rfl S.co S.gen rfl (PySem.W.codeRec_of KX hcd) (hb _ _ _ _ ?_);refine wpAny_newFunctionEnv_cells S.kind hkind fun env he s1 x=>?_;subst he;refine⟨lim.keeps x.toInCall.keep,codeAny_func ?_⟩;obtain⟨t,ht,hq⟩:=hbody A outer s H vs Q E (hr.deeper _) hsp;have I:Inv (Qhh CX P w K mg base N qual scope f cdv A outer s H E) [] (start N vs) H s1:=Qep S hr.hd e0 hl r x;refine wpAny_mono (ht [] s1 (start N vs) H _ I hq) (fun fl s' hs=>?_) fun e s' hs=>hs
 have fin:∀{σ':St} {H':Hp} {v:V} {u:Value},Inv (Qhh CX P w K mg base N qual scope f cdv A outer s H E) [] σ' H' s'->RelV v u->Q v H'->CE outer P w H s Q u s' :=
  fun {σ' H' v u} J rv q=>⟨v,H',J.os,J.bare,J.base,J.hok,rv,q⟩
 cases fl with
 | ret u =>
  obtain⟨v,σ',H',J,rv,q⟩:=hs;exact fin J rv q
 | next =>
  obtain⟨σ',H',J,q⟩:=hs;exact fin (v:=V.non) (u:=Value.none) J rfl q
 | brk =>
  obtain⟨_,_,_,q⟩:=hs;exact False.elim q
 | cont =>
  obtain⟨_,_,_,q⟩:=hs;exact False.elim q
end L2
namespace L2
open PySem PySem.Spec PyProof.Rows
section
variable {X:Cx}{x:Str}{p pos:Pos}{e:Expr}{es:List Expr}{t:TA}{id T:String}{r:List V->Hp->VK->Prop}
noncomputable def tCB(r:List V->Hp->VK->Prop)(t:TA):TE:=fun σ H Q=>t σ H fun vs H1=>r vs H1 Q
theorem Yx(hc:CallR X (.builtin id) r)(hg:Gl X x)(hm:X.mg x=none)(hv:bootBuiltins x=some (.builtin id))(ha:PA X (e::es) t)(hn:x≠"__name__":=by decide) (hdb:(x==("__debug__":Str))=false:=by decide)
  (he:starEach (e::es) X.env=(false,eval e X.env)::starEach es X.env:=by rfl) (hpl:(backTo pos (starEach es X.env)).any (·.1)=false:=by rfl):PE X (.Call (.Name x p) (e::es) [] pos) (tCB r t):=by
 intro pins s σ H Q I h;refine wpAny_Call_Name_kw (ZZ I hg hm hv ?_ hn hdb);exact PyProof.Rows.callWith_builtin1 (thn (ha pos pins s σ H _ I h) fun us s1 ⟨vs,H1,I1,r1,q1⟩=>hc pins s1 σ H1 vs us Q I1 r1 q1) he hpl
theorem Qaf(hc:CallR X (.type T) r)(hg:Gl X x)(hm:X.mg x=none)(hv:bootBuiltins x=some (.type T))(ha:PA X (e::es) t)(hn:x≠"__name__":=by decide) (hdb:(x==("__debug__":Str))=false:=by decide)
  (he:starEach (e::es) X.env=(false,eval e X.env)::starEach es X.env:=by rfl) (hpl:(backTo pos (starEach es X.env)).any (·.1)=false:=by rfl):PE X (.Call (.Name x p) (e::es) [] pos) (tCB r t):=by
 intro pins s σ H Q I h;refine wpAny_Call_Name_kw (ZZ I hg hm hv ?_ hn hdb);exact PyProof.Rows.callWith_type1 (thn (ha pos pins s σ H _ I h) fun us s1 ⟨vs,H1,I1,r1,q1⟩=>hc pins s1 σ H1 vs us Q I1 r1 q1) he hpl
end
end L2
namespace HT
open PySem PyProof.Rows
section
open PySem.SeqAt
open PySem.AutoSeq1 (wpAny_loadPart')
open PySem.MeetsSeq PySem.MeetsSeq2 PySem.MeetsSeq3
end
section
variable {prog:Program}{w:World}{A:Around}{E:Value->Shared->Prop}{s:Shared}
theorem cat_tup{t b:Addr}{vs ws:List Value}{Q:Value->Shared->Prop}(ht:IsTup s.heap t vs.toArray)(hb:IsTup s.heap b ws.toArray)(hv:vs≠[])
  (h1:ws=[]->Q (.ref t) s) (h2:ws≠[]->Q (.ref s.heap.objs.size) { s with heap:=s.heap.push { cls:=.type "tuple",data:=.seq (vs++ws).toArray } })
  (hsz:vs.length+ws.length<=sizeLine):wpAny (model prog w) A (binaryOp .Add (.ref t) (.ref b)) Q E s:=by
 obtain⟨⟨cls,dd,data,sl⟩,ho,hc,n,hd⟩:=id ht;obtain⟨⟨cls2,dd2,data2,sl2⟩,ho2,hc2,n2,hd2⟩:=id hb;simp only at hc hd hc2 hd2;subst hc hd hc2 hd2
 have e:vs.toArray++ws.toArray=(vs++ws).toArray:=by simp
 by_cases hw:ws=[]
 ·exact concat_meets ⟨_,ho,rfl⟩ ⟨_,ho2,rfl⟩ noFill_tuple_add seq_tuple_add PySem.F.slot_tuple_add PySem.F.entry_tuple_add (PySem.F.args_tuple_add_2 _ _)
   (tuple_addW1 t b vs.toArray ws.toArray n n2 dd dd2 sl sl2 (by simpa using hv) (by simp [hw])) ⟨ho,ho2,h1 hw⟩
 ·refine concat_meets ⟨_,ho,rfl⟩ ⟨_,ho2,rfl⟩ noFill_tuple_add seq_tuple_add PySem.F.slot_tuple_add PySem.F.entry_tuple_add (PySem.F.args_tuple_add_2 _ _)
   (tuple_addW2 t b vs.toArray ws.toArray n n2 dd dd2 sl sl2 (by simpa using hv) (by simpa using hw) (by rw [List.size_toArray,List.size_toArray];exact hsz)) ⟨ho,ho2,?_⟩
  rw [e];exact h2 hw
noncomputable def sIx(n d:Nat):Option Int->Nat
 | none=>d
 | some v=>if v<0 then(v+(n:Int)).toNat else min v.toNat n
theorem sIx_le(n d:Nat)(hd:d<=n)(o:Option Int):sIx n d o<=n:=by
 cases o with
 | none=>exact hd
 | some v =>
  show(if v<0 then(v+(n:Int)).toNat else min v.toNat n)<=n;by_cases hv:v<0
  ·rw [if_pos hv];omega
  ·rw [if_neg hv];exact Nat.min_le_right _ _
theorem clip_eq(v:Int)(n d:Nat):(if v<0 then max (v+(n:Int)) 0 else min v (n:Int))=((sIx n d (some v):Nat):Int):=by
 show(if v<0 then max (v+(n:Int)) 0 else min v (n:Int))=(((if v<0 then(v+(n:Int)).toNat else min v.toNat n):Nat):Int);by_cases hv:v<0
 ·simp only [if_pos hv];omega
 ·simp only [if_neg hv];omega
theorem QcX(lo hi:Option Int)(n:Nat):Builtin.Slice.sliceAdjust lo hi 1 (n:Int)=(((sIx n 0 lo:Nat):Int),((sIx n n hi:Nat):Int)):=by
 have h1:¬((1:Int) < 0):=by omega
 unfold Builtin.Slice.sliceAdjust;simp only [h1,if_false];refine Prod.ext ?_ ?_
 ·cases lo with
  | none=>rfl
  | some v=>exact clip_eq v n 0
 ·cases hi with
  | none=>rfl
  | some v=>exact clip_eq v n n
theorem Qcz(i j:Nat):Builtin.Slice.slicePlaces (i:Int) (j:Int) 1=j-i:=by
 unfold Builtin.Slice.slicePlaces
 have h1:(1:Int) > 0:=by omega
 simp only [h1,if_true,Int.ediv_one];split<;>omega
theorem Jd{v:Value}{o:Option Int}{Q:Option Int->Shared->Prop}(p:IsPart v o)(h:Q o s):wpAny (model prog w) A (Builtin.Slice.slicePartIndex v) Q E s:=by
 cases p with
 | none=>exact slicePart_none h
 | int i t=>exact slicePart_int h
theorem Yn{sl:Addr}{vl vu:Value}{lo hi:Option Int}{n:Nat}{Q:Int×Int×Nat->Shared->Prop}(hs:s.heap.IsSliceOf sl vl vu .none)(pl:IsPart vl lo)(pu:IsPart vu hi)
  (h:Q (((sIx n 0 lo:Nat):Int),1,sIx n n hi-sIx n 0 lo) s):wpAny (model prog w) A (Builtin.Slice.sliceApplied (.ref sl) (pure (n:Int))) Q E s:=by
 obtain⟨os,hos,hcs,hds⟩:=id hs;unfold Builtin.Slice.sliceApplied Builtin.Slice.sliceFields;refine wpAny_bind (wpAny_bind (wpAny_field hos hds (x:=vl) rfl (wpAny_bind (wpAny_field hos hds (x:=vu) rfl (wpAny_bind (wpAny_field hos hds (x:=.none) rfl (wpAny_pure ?_)))))));refine wpAny_bind (slicePart_none ?_);show wpAny _ _ (if((1:Int)==0)=true then _ else _) _ _ s
 rw [if_neg (by decide)]
 refine wpAny_bind (Jd pl (wpAny_bind (Jd pu (wpAny_bind (wpAny_pure ?_)))))
 show wpAny _ _ (match Builtin.Slice.sliceAdjust lo hi 1 (n:Int)with | (lo,hi)=>pure (lo,(1:Int),Builtin.Slice.slicePlaces lo hi 1)) _ _ s
 rw [QcX lo hi n];show wpAny _ _ (pure (((sIx n 0 lo:Nat):Int),(1:Int),Builtin.Slice.slicePlaces ((sIx n 0 lo:Nat):Int) ((sIx n n hi:Nat):Int) 1)) _ _ s;rw [Qcz];exact wpAny_pure h
theorem QfW(xs:Array Value)(i k:Nat):((List.range k).filterMap fun(m:Nat)=>xs[((i:Int)+(m:Int)*1).toNat]?).toArray=((xs.toList.drop i).take k).toArray:=by
 have e:(fun(m:Nat)=>xs[((i:Int)+(m:Int)*1).toNat]?)=fun m=>xs[i+m]?:=by
  funext m
  have:((i:Int)+(m:Int)*1).toNat=i+m:=by omega
  rw [this]
 rw [e];have:=pick_run xs i k;rw [List.filterMap_map]at this;have e2:((fun x=>xs[x]?)∘fun x=>i+x)=fun m=>xs[i+m]?:=rfl;rw [e2]at this;rw [this]
theorem getItem_tuple_cut{t sl:Addr}{items:Array Value}{vl vu:Value}{lo hi:Option Int}{Q:Value->Shared->Prop}(ht:IsTup s.heap t items)(hs:s.heap.IsSliceOf sl vl vu .none)(pl:IsPart vl lo)(pu:IsPart vu hi)
  (hw:¬(sIx items.size 0 lo=0/\sIx items.size items.size hi=items.size))
  (h:Q (.ref s.heap.objs.size) { s with heap:=s.heap.push { cls:=.type "tuple",data:=.seq ((items.toList.drop (sIx items.size 0 lo)).take (sIx items.size items.size hi-sIx items.size 0 lo)).toArray } })
  (hsz:items.size<=sizeLine):wpAny (model prog w) A (getItem (.ref t) (.ref sl)) Q E s:=by
 have htake:sizeOk (.seq ((items.toList.drop (sIx items.size 0 lo)).take (sIx items.size items.size hi-sIx items.size 0 lo)).toArray):=by
  show((items.toList.drop (sIx items.size 0 lo)).take (sIx items.size items.size hi-sIx items.size 0 lo)).toArray.size<=sizeLine;rw [List.size_toArray,List.length_take,List.length_drop,Array.length_toList];omega
 have hj:sIx items.size items.size hi<=items.size:=sIx_le _ _ (Nat.le_refl _) hi;obtain⟨os,hos,hcs,hds⟩:=id hs;have hTs:s.TypeIs (.ref sl) "slice":=⟨os,hos,hcs⟩;unfold getItem;try with_reducible refine wpAny_holding ?_
 first | refine wpAny_bind (wpAny_pure ?_) | skip
 refine wpAny_bind (wpAny_sequenceKey ht.typeIs (by decide) ?_)
 refine wpAny_bind (wpAny_callSpecial?_slot (name:=Str.ofString "__getitem__") ht.typeIs PyProof.Rows.slot_tuple_getitem
  (wpAny_call_entry PyProof.Rows.slot_tuple_getitem ht.typeIs entry_tuple_getitem ?_ (args_tuple_getitem _ _)))
 show wpAny _ _ (Builtin.Tuple.tupleItemsOf (.ref t) >>= _) _ _ s;refine wpAny_bind (tupleItemsOf_ ht ?_);refine wpAny_bind (wpAny_typeOf hTs ?_)
 rw [if_pos (by decide)]
 refine wpAny_bind (Yn hs pl pu ?_)
 have hno:¬((((sIx items.size 0 lo:Nat):Int)==0&&(1:Int)==1&&(sIx items.size items.size hi-sIx items.size 0 lo)==items.size)=true):=by
  intro q;rw [Bool.and_eq_true,Bool.and_eq_true]at q;have q1:((sIx items.size 0 lo:Nat):Int)=0:=eq_of_beq q.1.1;have q2:sIx items.size items.size hi-sIx items.size 0 lo=items.size:=eq_of_beq q.2
  exact hw ⟨by omega,by omega⟩
 show wpAny _ _ (if(((sIx items.size 0 lo:Nat):Int)==0&&(1:Int)==1&&(sIx items.size items.size hi-sIx items.size 0 lo)==items.size)=true then _ else _) _ _ s;rw [if_neg hno,QfW]
 first
  | exact wpAny_bind (m:=Builtin.Tuple.tupleExact _) (wpAny_newObj_type (wpAny_pure ⟨_,rfl,wpAny_pure h⟩) htake)
  | exact wpAny_bind (m:=Builtin.Tuple.tupleExact _) (wpAny_newObj_type (wpAny_bind (wpAny_pure (wpAny_pure ⟨_,rfl,wpAny_pure h⟩))) htake)
  | exact wpAny_bind (wpAny_bind (m:=Builtin.Tuple.tupleExact _) (wpAny_newObj_type (wpAny_pure (wpAny_pure ⟨_,rfl,wpAny_pure h⟩)) htake))
  | exact wpAny_bind (wpAny_bind (m:=Builtin.Tuple.tupleExact _) (wpAny_newObj_type (wpAny_pure ⟨_,rfl,wpAny_pure h⟩) htake))
end
end HT
namespace L2
open PySem PySem.Spec PyProof.Rows
noncomputable abbrev TO:=St->Hp->(Option Int->Hp->Prop)->Prop
noncomputable def PO(X:Cx)(e:Option Expr)(t:TO):Prop :=
 ∀(pins:List (Addr×Obj)) (s:Shared) (σ:St) (H:Hp) (Q:Option Int->Hp->Prop),Inv X pins σ H s->t σ H Q ->
  wpAny (model X.prog X.w) X.A (evalPart e X.env) (fun u s'=>∃o H',Inv X pins σ H' s'/\IsPart u o/\Q o H') X.xe s
noncomputable def QhB:TO:=fun _ H Q=>Q none H
noncomputable def QjX(t:TE):TO:=fun σ H Q=>t σ H fun x H1=>∃i,x=.int i/\Q (some i) H1
theorem QcH{ns:List Int}:∀{us:List Value},Vals (ns.map V.int) us->IntsAre us ns:=by
 induction ns with
 | nil=>intro us r;rw [List.map_nil]at r;cases r;exact .nil
 | cons n ns ih =>
  intro us r;rw [List.map_cons]at r
  cases r with
  | cons r1 r2 =>
   obtain⟨t,e⟩:=r1;subst e;exact .cons n t (ih r2)
section
variable {X:Cx}{e:Expr}{te:TE}{lo hi:Option Expr}{tl th:TO}{pos p2:Pos}
theorem Qif:PO X none QhB:=by
 intro pins s σ H Q I h;rw [evalPart_none];exact wpAny_pure ⟨none,H,I,.none,h⟩
theorem QdH(h:PE X e te):PO X (some e) (QjX te):=by
 intro pins s σ H Q I hw;rw [evalPart_some];refine thn (h pins s σ H _ I hw) fun u s1 ⟨x,H1,I1,r1,q1⟩=>?_;obtain⟨i,rfl,q⟩:=q1;obtain⟨t,rfl⟩:=r1;exact⟨some i,H1,I1,.int i t,q⟩
noncomputable def SlR(X:Cx)(r:V->Option Int->Option Int->Hp->VK->Prop):Prop :=
 ∀(pins:List (Addr×Obj)) (s:Shared) (σ:St) (H:Hp) (x:V) (v vl vu:Value) (lo hi:Option Int) (sl:Addr) (Q:VK),Inv X pins σ H s->RelV x v->s.heap.IsSliceOf sl vl vu .none->IsPart vl lo->IsPart vu hi->r x lo hi H Q ->
  ∃ T id, typeLookup (.type T) "__getitem__" = pure (some (.builtin id)) /\ s.TypeIs v T /\ wpAny (model X.prog X.w) X.A (getItem v (.ref sl)) (EP X pins σ Q) X.xe s
theorem SlR.or{r r':V->Option Int->Option Int->Hp->VK->Prop}(h:SlR X r)(h':SlR X r'):SlR X (fun x lo hi H Q=>r x lo hi H Q\/r' x lo hi H Q):=by
 intro pins s σ H x v vl vu lo hi sl Q I rx hs pl pu q
 rcases q with q | q
 ·exact h pins s σ H x v vl vu lo hi sl Q I rx hs pl pu q
 ·exact h' pins s σ H x v vl vu lo hi sl Q I rx hs pl pu q
noncomputable def tSl(r:V->Option Int->Option Int->Hp->VK->Prop)(te:TE)(tl th:TO):TE:=fun σ H Q=>te σ H fun x H1=>tl σ H1 fun l H2=>th σ H2 fun u H3=>r x l u H3 Q
theorem QfY{r:V->Option Int->Option Int->Hp->VK->Prop}(hr:SlR X r)(he:PE X e te)(hl:PO X lo tl)(hu:PO X hi th):PE X (.Subscript e (.Slice lo hi none p2) pos) (tSl r te tl th):=by
 intro pins s σ H Q I h;refine Subscript_ (thn (he pins s σ H _ I h) fun v s1 ⟨x,H1,I1,r1,q1⟩=>?_);refine wpAny_Slice (thn (hl pins s1 σ H1 _ I1 q1) fun vl s2 ⟨l,H2,I2,pl,q2⟩=>thn (hu pins s2 σ H2 _ I2 q2) fun vu s3 ⟨u,H3,I3,pu,q3⟩=>?_);rw [evalPart_none];refine wpAny_pure ?_;have I4:Inv X pins σ H3 { s3 with heap:=s3.heap.push { cls:=.type "slice",data:=.fields #[vl,vu,.none] } }:=I3.kept (t':=s3.toks) fun b ob q=>Heap.get?_push_of_some _ q;obtain⟨T,id,hT,ht,hg⟩:=hr pins { s3 with heap:=s3.heap.push { cls:=.type "slice",data:=.fields #[vl,vu,.none] } } σ H3 x v vl vu l u s3.heap.objs.size Q I4 r1 (Heap.IsSliceOf.new ..) pl pu q3;show wpAny (model X.prog X.w) X.A (subscriptTail e (.Slice lo hi none p2) v (.ref s3.heap.objs.size)) (EP X pins σ Q) X.xe { s3 with heap:=s3.heap.push { cls:=.type "slice",data:=.fields #[vl,vu,.none] } }
 exact tail_any (ops:=[.ref s3.heap.objs.size,v]) ht hT hg (by with_unfolding_all rfl)
noncomputable def Qhi(xs:List V)(lo hi:Option Int):List V:=(xs.drop (HT.sIx xs.length 0 lo)).take (HT.sIx xs.length xs.length hi-HT.sIx xs.length 0 lo)
theorem YW(xs:List V)(lo hi:Option Int):(Qhi xs lo hi).length<=xs.length:=by
 unfold Qhi;rw [List.length_take,List.length_drop];omega
noncomputable def Qop(K:PySem.W.Frag):V->Option Int->Option Int->Hp->VK->Prop:=fun x lo hi H Q=>∃a xs,x=.ref a/\SqT K H a xs /\
 ¬(HT.sIx xs.length 0 lo=0/\HT.sIx xs.length xs.length hi=xs.length)/\∀p,H p=none->Q (.ref p) (upd H p (.tup (Qhi xs lo hi)))
theorem sl_tup:SlR X (Qop X.K):=by
 intro pins s σ H x v vl vu lo hi sl Q I rx hs pl pu h;obtain⟨a,xs,rfl,hx,hw,q⟩:=h;cases rx;obtain⟨its,r,ht,hz⟩:=I.tuple hx
 have hlen:its.toArray.size=xs.length:=by rw [List.size_toArray];exact r.length.symm
 refine⟨"tuple",_,PyProof.Rows.slot_tuple_getitem.lookup,ht.typeIs,?_⟩
 refine HT.getItem_tuple_cut ht hs pl pu (by rw [hlen];exact hw) ?_ (by rw [hlen];exact hz)
 rw [hlen];refine⟨.ref s.heap.objs.size,_,I.laid (t':=s.toks) (o:=.tup (Qhi xs lo hi)) (fun b ob q=>Heap.get?_push_of_some _ q) (Nat.le_refl _) ?_,rfl,q _ (I.hok.fresh (Nat.le_refl _))⟩;exact⟨Nat.le_trans (YW xs lo hi) hz,_,(r.drop (HT.sIx xs.length 0 lo)).take (HT.sIx xs.length xs.length hi-HT.sIx xs.length 0 lo),IsTup.new _ _⟩
noncomputable def QmZ(K:PySem.W.Frag):R2:=fun x y H Q=>∃a b xs ys,x=.ref a/\y=.ref b/\SqT K H a xs/\SqT K H b ys/\xs≠[]/\xs.length+ys.length<=sizeLine /\
 (ys=[]->Q (.ref a) H)/\(ys≠[]->∀p,H p=none->Q (.ref p) (upd H p (.tup (xs++ys))))
theorem Vals.nil_iff{xs:List V}{us:List Value}(r:Vals xs us):us=[]↔xs=[]:=by
 cases r with
 | nil=>simp
 | cons _ _=>simp
theorem Qit:OpR X (binaryOp .Add) (QmZ X.K):=by
 intro pins s σ H x y v u Q I rx ry h;obtain⟨a,b,xs,ys,rfl,rfl,ha,hb,hx,hz,q1,q2⟩:=h;cases rx;cases ry;obtain⟨its,r1,p1,_⟩:=I.tuple ha;obtain⟨its2,r2,p2,_⟩:=I.tuple hb
 refine HT.cat_tup p1 p2 (fun z=>hx (r1.nil_iff.mp z)) (fun z=>⟨.ref a,H,I,rfl,q1 (r2.nil_iff.mp z)⟩) (fun z=>?_) (by rw [<-r1.length,<-r2.length];exact hz)
 refine⟨.ref s.heap.objs.size,_,I.laid (t':=s.toks) (o:=.tup (xs++ys)) (fun b ob q=>Heap.get?_push_of_some _ q) (Nat.le_refl _) ?_,rfl,q2 (fun w=>z (r2.nil_iff.mpr w)) _ (I.hok.fresh (Nat.le_refl _))⟩
 exact⟨by rw [List.length_append];exact hz,_,r1.append r2,IsTup.new _ _⟩
end
end L2
namespace L2
open PySem PySem.Spec PyProof.Rows
noncomputable def ixN(n:Nat)(i:Int):Option Nat:=if 0<=i then(if i<n then some i.toNat else none)else if -(n:Int)<=i then some (i+n).toNat else none
noncomputable def atI{α:Type}(xs:List α)(i:Int):Option α:=(ixN xs.length i).bind fun j=>xs[j]?
theorem Qej{n:Nat}{i:Int}{j:Nat}(h:ixN n i=some j):seqIndex? i n=some j/\j<n/\-(n:Int)<=i/\i<n:=by
 unfold ixN at h;by_cases h0:0<=i
 ·rw [if_pos h0]at h;by_cases h1:i<n
  ·rw [if_pos h1]at h;have e:i.toNat=j:=Option.some.inj h
   exact⟨by rw [seqIndex_of h0 h1,e],by omega,by omega,h1⟩
  ·rw [if_neg h1]at h;cases h
 ·rw [if_neg h0]at h;by_cases h1:-(n:Int)<=i
  ·rw [if_pos h1]at h;have e:(i+n).toNat=j:=Option.some.inj h
   exact⟨by rw [seqIndex_neg (by omega) h1,e],by omega,h1,by omega⟩
  ·rw [if_neg h1]at h;cases h
theorem Qbp{α:Type}{xs:List α}{i:Int}{v:α}(h:atI xs i=some v):∃j,seqIndex? i xs.length=some j/\xs[j]?=some v/\j<xs.length/\-(xs.length:Int)<=i/\i<xs.length:=by
 unfold atI at h
 cases e:ixN xs.length i with
 | none=>rw [e]at h;cases h
 | some j =>
  rw [e]at h;obtain⟨h1,h2,h3,h4⟩:=Qej e;exact⟨j,h1,h,h2,h3,h4⟩
noncomputable def Qfb(b:Expr):Prop:=∀o i,subscripted b false o i=operate [o,i] (getItem o i)
noncomputable def IxR(X:Cx)(r:R2):Prop :=
 ∀(value slice:Expr) (pins:List (Addr×Obj)) (s:Shared) (σ:St) (H:Hp) (x y:V) (v u:Value) (Q:VK),Inv X pins σ H s->RelV x v->RelV y u->r x y H Q ->
  subscripted slice false v u=operate [v,u] (getItem v u)->wpAny (model X.prog X.w) X.A (subscriptTail value slice v u) (EP X pins σ Q) X.xe s
noncomputable def MtR(X:Cx)(id:String)(r:V->List V->Hp->VK->Prop):Prop :=
 ∀(pins:List (Addr×Obj)) (s:Shared) (σ:St) (H:Hp) (x:V) (xs:List V) (v:Value) (us:List Value) (Q:VK),Inv X pins σ H s->RelV x v->Vals xs us->r x xs H Q ->
  wpAny (model X.prog X.w) X.A (call (.builtin id) (v::us)) (EP X pins σ Q) X.xe s
section
variable {X:Cx}{a b:Expr}{ta tb:TE}{pos:Pos}
theorem IxR.or{r r':R2}(h:IxR X r)(h':IxR X r'):IxR X (fun x y H Q=>r x y H Q\/r' x y H Q):=by
 intro value slice pins s σ H x y v u Q I rx ry q hs
 rcases q with q | q
 ·exact h value slice pins s σ H x y v u Q I rx ry q hs
 ·exact h' value slice pins s σ H x y v u Q I rx ry q hs
theorem Qm5{r:R2}(hr:IxR X r)(ha:PE X a ta)(hb:PE X b tb)(hs:Qfb b):PE X (.Subscript a b pos) (tOp r ta tb):=by
 intro pins s σ H Q I h;exact Subscript_ (QnX ha hb I h fun v u s2 x y H2 I2 rx ry q=>hr a b pins s2 σ H2 x y v u Q I2 rx ry q (hs _ _))
noncomputable def Qov(K:PySem.W.Frag):R2:=fun x y H Q=>∃p xs i v,x=.ref p/\y=.int i/\SqL K H p xs/\atI xs i=some v/\Q v H
noncomputable def Qot(K:PySem.W.Frag):R2:=fun x y H Q=>∃p xs i v,x=.ref p/\y=.int i/\SqT K H p xs/\atI xs i=some v/\Q v H
noncomputable def Qou:R2:=fun x y H Q=>∃z i c,x=.str z/\y=.int i/\z.length<=sizeLine/\atI z.cps.toList i=some c/\Q (.str ⟨#[c]⟩) H
theorem ix_list:IxR X (Qov X.K):=by
 intro value slice pins s σ H x y v u Q I rx ry h hs;obtain⟨p,xs,i,z,rfl,rfl,hq,he,q⟩:=h;cases rx;obtain⟨t,rfl⟩:=ry;obtain⟨its,r,pl,hz⟩:=I.list hq;obtain⟨j,h1,h2,h3,h4,h5⟩:=Qbp he;obtain⟨w,ew,rw'⟩:=r.get h2;have hl:=r.length;have hn:=YN;have fin:EP X pins σ Q w s:=⟨z,H,I,rw',q⟩;by_cases h0:0<=i
 ·have hj:i.toNat=j:=by
   rw [seqIndex_of h0 h5]at h1;exact Option.some.inj h1
  exact item_listR pl.isList h0 (by omega) (by rw [hj];simpa using ew) fin hs
 ·have hj:(i+(its.toArray.size:Int)).toNat=j:=by
   rw [seqIndex_neg (by omega) h4]at h1
   rw [List.size_toArray,<-hl];exact Option.some.inj h1
  exact subscriptTail_builtinR (x:=w) pl.isList.typeIs slot_list_getitem.lookup
   (wpAny_getItem_list_neg (Q:=fun r s'=>r=w/\EP X pins σ Q r s') pl.isList (by omega) (by rw [List.size_toArray]<;>omega) (by omega) (by rw [hj];simpa using ew) ⟨rfl,fin⟩) hs
theorem ix_tup:IxR X (Qot X.K):=by
 intro value slice pins s σ H x y v u Q I rx ry h hs;obtain⟨p,xs,i,z,rfl,rfl,hq,he,q⟩:=h;cases rx;obtain⟨t,rfl⟩:=ry;obtain⟨its,r,pl,hz⟩:=I.tuple hq;obtain⟨j,h1,h2,h3,h4,h5⟩:=Qbp he;obtain⟨w,ew,rw'⟩:=r.get h2;have hl:=r.length;have hn:=YN;have fin:EP X pins σ Q w s:=⟨z,H,I,rw',q⟩
 exact subscriptTail_builtinR (x:=w) pl.typeIs slot_tuple_getitem.lookup
  (getItem_tuple (j:=j) (Q:=fun r s'=>r=w/\EP X pins σ Q r s') pl (by omega) (by omega) (by rw [List.size_toArray,<-hl];exact h1) (by simpa using ew) ⟨rfl,fin⟩) hs
theorem Qln:IxR X Qou:=by
 intro value slice pins s σ H x y v u Q I rx ry h hs;obtain⟨z,i,c,rfl,rfl,hz,he,q⟩:=h;obtain⟨t,rfl⟩:=rx;obtain⟨t',rfl⟩:=ry;obtain⟨j,h1,h2,h3,h4,h5⟩:=Qbp he
 have hl:z.cps.toList.length=z.length:=by simp [Str.length]
 rw [hl]at h1 h4 h5;have hn:=YN
 exact tail_any (typeIs_str s z t) slot_str_getitem.lookup (getItem_str (c:=c) (by
  have e1:decide (i < -(2 ^ 63:Int))=false:=decide_eq_false (by omega)
  have e2:decide (i≥2 ^ 63)=false:=decide_eq_false (by omega)
  rw [e1,e2,Bool.or_false]) (by rw [h1];simpa using h2) ⟨.str ⟨#[c]⟩,H,I.tok _,⟨_,rfl⟩,q⟩) hs
noncomputable def rIx(K:PySem.W.Frag):R2:=fun x y H Q=>Qov K x y H Q\/Qot K x y H Q\/Qou x y H Q
theorem ix_seq:IxR X (rIx X.K):=ix_list.or (ix_tup.or Qln)
theorem QcD(its:List Value)(n j:Nat)(u:Value):Obj.mapSeq (·.setIfInBounds j u) { cls:=.type "list",data:=.seq its.toArray n }={ cls:=.type "list",data:=.seq (its.set j u).toArray n }:=by
 simp [Obj.mapSeq]
theorem Inv.lst{pins:List (Addr×Obj)}{σ:St}{H:Hp}{s:Shared}{p:Addr}{xs:List V}(I:Inv X pins σ H s)(h:H p=some (.lst xs)):
  ∃ (its : List Value) (n : Nat), Vals xs its /\ s.heap.get? p = some { cls := .type "list", data := .seq its.toArray n } /\ xs.length <= sizeLine := by
 obtain⟨z,its,n,r,e⟩:=I.hok p _ h;exact⟨its,n,r,e,z⟩
theorem Inv.lstUpd{pins:List (Addr×Obj)}{σ:St}{H:Hp}{s:Shared}{p:Addr}{xs ys:List V}{its its':List Value}{n n':Nat}{f:Obj->Obj}(I:Inv X pins σ H s)(h:H p=some (.lst xs))
  (ho:s.heap.get? p=some { cls:=.type "list",data:=.seq its.toArray n }) (hf:f { cls:=.type "list",data:=.seq its.toArray n }={ cls:=.type "list",data:=.seq its'.toArray n' }) (r:Vals ys its') (hz:ys.length<=sizeLine) (t:Nat):
  Inv X pins σ (upd H p (.lst ys)) { s with heap:=s.heap.update p f,toks:=t }:=by
 have e:(s.heap.update p f).get? p=some { cls:=.type "list",data:=.seq its'.toArray n' }:=by
  rw [Heap.get?_update_self f ho (by rw [hf]<;>rfl),hf]
 refine I.write (x:=p) (e:=p) (by rw [h];trivial) (.inl rfl) (fun b u hb q=>(Heap.get?_update_other _ _ (Ne.symm hb)).trans q) ⟨_,e⟩ ?_
 exact⟨hz,its',n',r,e⟩
noncomputable def QmU:V->V->V->Hp->(Hp->Prop)->Prop:=fun o i v H Q=>∃p xs k j,o=.ref p/\i=.int k/\H p=some (.lst xs)/\ixN xs.length k=some j/\Q (upd H p (.lst (xs.set j v)))
theorem QfK:QjA X QmU:=by
 intro pins s σ H o i v ov iv u Q I ro ri rv h;obtain⟨p,xs,k,j,rfl,rfl,hp,hj,q⟩:=h;cases ro;obtain⟨t,rfl⟩:=ri;obtain⟨its,n,r,ho,hz⟩:=I.lst hp;obtain⟨h1,h2,h3,h4⟩:=Qej hj;have hl:=r.length;have hn:=YN
 have I':Inv X pins σ (upd H p (.lst (xs.set j v))) { s with heap:=s.heap.update p (Obj.mapSeq (·.setIfInBounds j u)) }:=
  I.lstUpd hp ho (QcD its n j u) (r.set rv j) (by rw [List.length_set];exact hz) s.toks
 by_cases h0:0<=k
 ·have hk:k.toNat=j:=by
   rw [seqIndex_of h0 h4]at h1;exact Option.some.inj h1
  exact PySem.W.ki_setAt ho h0 (by omega) (by rw [List.size_toArray,<-hl];exact h4) (by rw [hk];exact⟨_,I',q⟩)
 ·have hk:(k+(its.toArray.size:Int)).toNat=j:=by
   rw [seqIndex_neg (by omega) h3]at h1
   rw [List.size_toArray,<-hl];exact Option.some.inj h1
  exact PySem.W.ki_setBack ho (by omega) (by rw [List.size_toArray,<-hl];exact h3) (by omega) (by rw [hk];exact⟨_,I',q⟩)
theorem J1(lo hi:Option Int)(n:Nat):(sliceBounds lo hi none n).1=((HT.sIx n 0 lo:Nat):Int)/\(sliceBounds lo hi none n).2.1=((HT.sIx n n hi:Nat):Int)/\(sliceBounds lo hi none n).2.2=1:=by
 refine⟨?_,?_,rfl⟩
 ·cases lo with
  | none=>simp [sliceBounds,HT.sIx]
  | some i =>
   simp only [sliceBounds,HT.sIx,Option.getD_none,show(1:Int) > 0 by decide,if_true]
   by_cases h:i<0
   ·simp only [h,if_true]<;>omega
   ·simp only [h,if_false]<;>omega
 ·cases hi with
  | none=>simp [sliceBounds,HT.sIx]
  | some i =>
   simp only [sliceBounds,HT.sIx,Option.getD_none,show(1:Int) > 0 by decide,if_true]
   by_cases h:i<0
   ·simp only [h,if_true]<;>omega
   ·simp only [h,if_false]<;>omega
theorem Jx(its:List Value)(lo hi:Option Int):slicePick its.toArray lo hi none=((its.drop (HT.sIx its.length 0 lo)).take (HT.sIx its.length its.length hi-HT.sIx its.length 0 lo)).toArray:=by
 obtain⟨h1,h2,h3⟩:=J1 lo hi its.toArray.size;unfold slicePick;rw [h1,h2,h3];simp only [sliceRange_one,pick_run,List.size_toArray]<;>rfl
noncomputable def Qor(K:PySem.W.Frag):V->Option Int->Option Int->Hp->VK->Prop:=fun x lo hi H Q=>∃a xs,x=.ref a/\SqL K H a xs/\∀p,H p=none->Q (.ref p) (upd H p (.lst (Qhi xs lo hi)))
theorem sl_list:SlR X (Qor X.K):=by
 intro pins s σ H x v vl vu lo hi sl Q I rx hs pl pu h;obtain⟨a,xs,rfl,hx,q⟩:=h;cases rx;obtain⟨its,r,ht,hz⟩:=I.list hx;have hlen:=r.length;refine⟨"list",_,slot_list_getitem.lookup,ht.isList.typeIs,?_⟩
 refine wpAny_getItem_list_slice ht.isList hs pl pu .none (by simp) ?_ (by rw [List.size_toArray]<;>omega)
 rw [Jx,<-hlen];refine⟨.ref s.heap.objs.size,_,I.laid (t':=s.toks) (o:=.lst (Qhi xs lo hi)) (fun b ob q=>Heap.get?_push_of_some _ q) (Nat.le_refl _) ?_,rfl,q _ (I.hok.fresh (Nat.le_refl _))⟩;exact⟨Nat.le_trans (YW xs lo hi) hz,_,0,(r.drop (HT.sIx xs.length 0 lo)).take (HT.sIx xs.length xs.length hi-HT.sIx xs.length 0 lo),Heap.get?_push_size _ rfl⟩
noncomputable def Y9:V->Bool
 | .non=>true
 | .bl _=>true
 | .int _=>true
 | .str _=>true
 | _=>false
noncomputable def eqV:V->V->Bool
 | .non,.non=>true
 | .bl a,.bl b=>a==b
 | .bl a,.int b=>(if a then 1 else 0)==b
 | .int a,.bl b=>a==(if b then 1 else 0)
 | .int a,.int b=>a==b
 | .str a,.str b=>a==b
 | _,_=>false
theorem Qlw{A:Around}{s:Shared}{y x:V}{u v:Value}(ry:RelV y u)(rx:RelV x v)(fy:Y9 y=true)(fx:Y9 x=true):SeqAt.EqAt A s u v (eqV y x):=by
 cases y with
 | non =>
  cases ry
  cases x with
  | non=>cases rx;exact SeqAt.EqAt.same _
  | bl b=>cases rx;exact SeqAt.EqAt.none_bool b
  | int b=>obtain⟨t,rfl⟩:=rx;exact SeqAt.EqAt.none_int b t
  | str b=>obtain⟨t,rfl⟩:=rx;exact SeqAt.EqAt.none_str b t
  | _=>exact absurd (show false=true from fx) Bool.false_ne_true
 | bl a =>
  cases ry
  cases x with
  | non=>cases rx;exact SeqAt.EqAt.bool_none a
  | bl b=>cases rx;exact SeqAt.EqAt.bool_bool a b
  | int b=>obtain⟨t,rfl⟩:=rx;exact SeqAt.EqAt.bool_int a b t
  | str b=>obtain⟨t,rfl⟩:=rx;exact SeqAt.EqAt.bool_str a b t
  | _=>exact absurd (show false=true from fx) Bool.false_ne_true
 | int a =>
  obtain⟨t',rfl⟩:=ry
  cases x with
  | non=>cases rx;exact SeqAt.EqAt.int_none a t'
  | bl b=>cases rx;exact SeqAt.EqAt.int_bool a t' b
  | int b=>obtain⟨t,rfl⟩:=rx;exact SeqAt.EqAt.int_int a t' b t
  | str b=>obtain⟨t,rfl⟩:=rx;exact SeqAt.EqAt.int_str a t' b t
  | _=>exact absurd (show false=true from fx) Bool.false_ne_true
 | str a =>
  obtain⟨t',rfl⟩:=ry
  cases x with
  | non=>cases rx;exact SeqAt.EqAt.str_none a t'
  | bl b=>cases rx;exact SeqAt.EqAt.str_bool a t' b
  | int b=>obtain⟨t,rfl⟩:=rx;exact SeqAt.EqAt.str_int a t' b t
  | str b=>obtain⟨t,rfl⟩:=rx;exact SeqAt.EqAt.str_str a t' b t
  | _=>exact absurd (show false=true from fx) Bool.false_ne_true
 | _=>exact absurd (show false=true from fy) Bool.false_ne_true
noncomputable def eqU(x:V)(u:Value):Bool:=match u with
 | .none=>eqV .non x
 | .bool b=>eqV (.bl b) x
 | .int i _=>eqV (.int i) x
 | .str z _=>eqV (.str z) x
 | _=>false
theorem Qhe{x y:V}{u:Value}(r:RelV y u)(f:Y9 y=true):eqU x u=eqV y x:=by
 cases y with
 | non=>cases r;rfl
 | bl b=>cases r;rfl
 | int i=>obtain⟨t,rfl⟩:=r;rfl
 | str z=>obtain⟨t,rfl⟩:=r;rfl
 | _=>exact absurd (show false=true from f) Bool.false_ne_true
theorem YZ{x:V}:∀{xs:List V} {us:List Value},Vals xs us->xs.all Y9=true->us.any (eqU x)=xs.any fun y=>eqV y x
 | _,_,.nil,_=>rfl
 | y::xs,u::us,.cons r t,f=>by
  rw [List.all_cons,Bool.and_eq_true]at f;rw [List.any_cons,List.any_cons,Qhe r f.1,YZ t f.2]
theorem ZY{A:Around}{s:Shared}{x:V}{v:Value}(rx:RelV x v)(fx:Y9 x=true):∀{xs:List V} {us:List Value},Vals xs us->xs.all Y9=true->∀u∈us,SeqAt.EqAt A s u v (eqU x u)
 | _,_,.nil,_=>fun u hu=>by cases hu
 | y::xs,u::us,.cons r t,f=>fun u' hu=>by
  rw [List.all_cons,Bool.and_eq_true]at f
  rcases List.mem_cons.mp hu with rfl | hu
  ·rw [Qhe r f.1];exact Qlw r rx f.1 fx
  ·exact ZY rx fx t f.2 u' hu
noncomputable def inV(x:V)(xs:List V):Bool:=xs.any fun y=>eqV y x
noncomputable def rIn(K:PySem.W.Frag)(neg:Bool):R2:=fun x y H Q=>∃p xs,y=.ref p/\(SqL K H p xs\/SqT K H p xs)/\Y9 x=true/\xs.all Y9=true/\Q (.bl (if neg then !inV x xs else inV x xs)) H
theorem QdT:OpR X (compareOp .In) (rIn X.K false):=by
 intro pins s σ H x y v u Q I rx ry h;obtain⟨p,xs,rfl,hq,fx,fs,q⟩:=h;cases ry
 rcases hq with hq | hq
 ·obtain⟨its,r,pl,hz⟩:=I.list hq
  refine SeqAt.in_listAt (eqU x) pl.isList (fun w hw=>ZY rx fx r fs w (by simpa using hw)) ⟨.bl _,H,I,rfl,?_⟩
  rw [show its.toArray.any (eqU x)=its.any (eqU x) by simp,YZ r fs]
  exact q
 ·obtain⟨its,r,pl,hz⟩:=I.tuple hq
  refine SeqAt.in_tupleAt (eqU x) pl (fun w hw=>ZY rx fx r fs w (by simpa using hw)) ⟨.bl _,H,I,rfl,?_⟩
  rw [show its.toArray.any (eqU x)=its.any (eqU x) by simp,YZ r fs]
  exact q
theorem Qak:OpR X (compareOp .NotIn) (rIn X.K true):=by
 intro pins s σ H x y v u Q I rx ry h;obtain⟨p,xs,rfl,hq,fx,fs,q⟩:=h;cases ry
 rcases hq with hq | hq
 ·obtain⟨its,r,pl,hz⟩:=I.list hq
  refine SeqAt.notIn_listAt (eqU x) pl.isList (fun w hw=>ZY rx fx r fs w (by simpa using hw)) ⟨.bl _,H,I,rfl,?_⟩
  rw [show its.toArray.any (eqU x)=its.any (eqU x) by simp,YZ r fs]
  exact q
 ·obtain⟨its,r,pl,hz⟩:=I.tuple hq
  refine SeqAt.notIn_tupleAt (eqU x) pl (fun w hw=>ZY rx fx r fs w (by simpa using hw)) ⟨.bl _,H,I,rfl,?_⟩
  rw [show its.toArray.any (eqU x)=its.any (eqU x) by simp,YZ r fs]
  exact q
theorem QaD : CallR X (.builtin "len") (fun xs H Q => ∃ p ys, xs = [.ref p] /\ (SqL X.K H p ys \/ SqT X.K H p ys) /\ Q (.int ys.length) H) := by
 intro pins s σ H xs us Q I r h;obtain⟨p,ys,rfl,hq,q⟩:=h;obtain⟨u,rfl,rx⟩:=QaN r;cases rx;have hn:=YN
 rcases hq with hq | hq
 ·obtain⟨its,r',pl,hz⟩:=I.list hq;have hlen:=r'.length
  exact Calls.call_len_list pl.isList (by simp only [List.size_toArray]<;>omega) ⟨.int ys.length,H,I.tok _,⟨s.toks+1,by rw [List.size_toArray,hlen]⟩,q⟩
 ·obtain⟨its,r',pl,hz⟩:=I.tuple hq;have hlen:=r'.length
  exact len_tuple pl (by simp only [List.size_toArray]<;>omega) ⟨.int ys.length,H,I.tok _,⟨s.toks+1,by rw [List.size_toArray,hlen]⟩,q⟩
theorem QaC : CallR X (.builtin "len") (fun xs H Q => ∃ z, xs = [.str z] /\ z.length <= sizeLine /\ Q (.int z.length) H) := by
 intro pins s σ H xs us Q I r h;obtain⟨z,rfl,hz,q⟩:=h;obtain⟨u,rfl,t,rfl⟩:=QaN r;have hn:=YN
 exact len_str (by omega) ⟨.int z.length,H,I.tok _,⟨_,rfl⟩,q⟩
theorem CallR.or{f:Value}{r r':List V->Hp->VK->Prop}(h:CallR X f r)(h':CallR X f r'):CallR X f (fun xs H Q=>r xs H Q\/r' xs H Q):=by
 intro pins s σ H xs us Q I rs q
 rcases q with q | q
 ·exact h pins s σ H xs us Q I rs q
 ·exact h' pins s σ H xs us Q I rs q
theorem JL : CallR X (.type "tuple") (fun xs H Q => ∃ p ys, xs = [.ref p] /\ ((SqL X.K H p ys /\ ∀ l, H l = none -> Q (.ref l) (upd H l (.tup ys))) \/ (SqT X.K H p ys /\ Q (.ref p) H))) := by
 intro pins s σ H xs us Q I r h;obtain⟨p,ys,rfl,h⟩:=h;obtain⟨u,rfl,rx⟩:=QaN r;cases rx
 rcases h with⟨hq,q⟩ | ⟨hq,q⟩
 ·obtain⟨its,r',pl,hz⟩:=I.list hq;have hlen:=r'.length
  refine call_tuple_list pl.isList (fun h' kp=>?_) (by simp only [List.size_toArray]<;>omega)
  have I1:Inv X pins σ H { s with heap:=h' }:=I.kept (t':=s.toks) kp
  have I2:Inv X pins σ (upd H h'.objs.size (.tup ys)) { s with heap:=h'.push { cls:=.type "tuple",data:=.seq its.toArray } }:=
   I1.laid (t':=s.toks) (fun b o e=>Heap.get?_push_of_some _ e) (Nat.le_refl _) (show ObjOk X.prog X.w _ _ _ (.tup ys)from⟨hz,its,r',IsTup.new _ _⟩)
  exact⟨.ref h'.objs.size,_,I2,rfl,q _ (I1.hok.fresh (Nat.le_refl _))⟩
 ·obtain⟨its,r',pl,hz⟩:=I.tuple hq;exact call_tuple_same pl ⟨.ref p,H,I,rfl,q⟩
noncomputable def tyV(K:PySem.W.Frag)(T:String)(x:V)(H:Hp):Prop:=match x with
 | .str _=>T="str"
 | .int _=>T="int"
 | .ref p => (T = "list" /\ ∃ xs, SqL K H p xs) \/ (T = "tuple" /\ ∃ o, K.lookup p = some o /\ o.cls = .type "tuple" /\ o.dict = none) \/
   (T = "dict" /\ ((∃ kvs, H p = some (.dK kvs)) \/ ∃ kvs, H p = some (.dT kvs))) \/ (T = "set" /\ ∃ S n, H p = some (.set S n))
 | _=>False
theorem QgK{pins:List (Addr×Obj)}{σ:St}{H:Hp}{s:Shared}{T:String}{x:V}{v:Value}(I:Inv X pins σ H s)(r:RelV x v)(ty:tyV X.K T x H):
  s.TypeIs v T/\∀a,v=.ref a->∃ob,s.heap.get? a=some ob/\ob.dict=none:=by
 cases x with
 | str z =>
  obtain⟨t,rfl⟩:=r;cases(show T="str" from ty);exact⟨typeIs_str s z t,fun _ e=>nomatch e⟩
 | int i =>
  obtain⟨t,rfl⟩:=r;cases(show T="int" from ty);exact⟨typeIs_int s i t,fun _ e=>nomatch e⟩
 | ref p =>
  cases r
  rcases ty with⟨rfl,xs,hq⟩ | ⟨rfl,o,hk,hc,hd⟩ | ⟨rfl,hk⟩ | ⟨rfl,S,n,hk⟩
  ·obtain⟨its,_,pl,_⟩:=I.list hq;refine⟨pl.isList.typeIs,fun a e=>?_⟩;cases e;obtain⟨o,n,e,c,hd,_⟩:=pl;exact⟨o,e,hd⟩
  ·refine⟨⟨o,I.kIn p o hk,hc⟩,fun a e=>?_⟩;cases e;exact⟨o,I.kIn _ o hk,hd⟩
  ·have z:∃o,s.heap.get? p=some o/\o.ExactDict:=by
    rcases hk with⟨kvs,hk⟩ | ⟨kvs,hk⟩
    ·obtain⟨_,_,_,_,o,_,_,e,ex,_⟩:=I.hok p _ hk;exact⟨o,e,ex⟩
    ·obtain⟨_,_,_,_,o,_,_,e,ex,_⟩:=I.hok p _ hk;exact⟨o,e,ex⟩
   obtain⟨o,e,ex⟩:=z;refine⟨⟨o,e,ex.1⟩,fun a e2=>?_⟩;cases e2;exact⟨o,e,ex.2.1⟩
  ·obtain⟨o,_,_,_,e,ex,_⟩:=I.hok p _ hk;refine⟨⟨o,e,ex.1⟩,fun a e2=>?_⟩;cases e2;exact⟨o,e,ex.2.1⟩
 | _=>exact False.elim ty
noncomputable def Qo0(K:PySem.W.Frag)(T:String)(r:V->List V->Hp->VK->Prop)(to:TE):TE:=fun σ H Q=>to σ H fun x H1=>tyV K T x H1/\r x [] H1 Q
noncomputable def tBM(K:PySem.W.Frag)(T:String)(r:V->List V->Hp->VK->Prop)(to:TE)(t:TA):TE:=fun σ H Q=>to σ H fun x H1=>tyV K T x H1/\t σ H1 fun xs H2=>r x xs H2 Q
variable {o e:Expr}{es:List Expr}{to:TE}{t:TA}{name:Str}{apos cpos:Pos}{T id:String}{r:V->List V->Hp->VK->Prop}
theorem QkO(pa:PlainAttrs T)(slot:Slot T name id)(hty:typeOf (.builtin id)=pure (.type "method_descriptor")) (hm:MtR X id r) (ho:PE X o to)
  (hbase:attributeBase o name X.env (eval o X.env)=eval o X.env:=by rfl) (hline:(apos.endLine==cpos.line)=true:=by rfl):PE X (.Call (.Attribute o name apos) [] [] cpos) (Qo0 X.K T r to):=by
 intro pins s σ H Q I h;refine wpAny_Call_method0_late hbase hline (thn (ho pins s σ H _ I h) fun v s1 ⟨x,H1,I1,r1,ty,q1⟩=>?_);obtain⟨h1,h2⟩:=QgK I1 r1 ty;exact⟨T,id,pa,slot,hty,h1,h2,Calls.callWith_builtin rfl (PySem.evalArgs_none (hm pins s1 σ H1 x [] v [] Q I1 r1 .nil q1))⟩
theorem Qm6(pa:PlainAttrs T)(slot:Slot T name id)(hty:typeOf (.builtin id)=pure (.type "method_descriptor")) (hm:MtR X id r) (ho:PE X o to) (ha:PA X (e::es) t)
  (hbase:attributeBase o name X.env (eval o X.env)=eval o X.env:=by rfl)
  (hfew:((backTo cpos (starEach (e::es) X.env)).all (fun x=>!x.1)&&(backToKw cpos (keywordEach [] X.env)).all (fun x=>x.1.isSome)
   && decide ((e::es).length+([]:List Keyword).length+(if([]:List Keyword).isEmpty then 0 else 1) < 30))=true:=by rfl)
  (hline:(apos.endLine==cpos.line)=true:=by rfl) (hs:starEach (e::es) X.env=(false,eval e X.env)::starEach es X.env:=by rfl) (hplain:(backTo cpos (starEach es X.env)).any (·.1)=false:=by rfl):
  PE X (.Call (.Attribute o name apos) (e::es) [] cpos) (tBM X.K T r to t):=by
 intro pins s σ H Q I h;refine wpAny_Call_method_late hbase hfew hline rfl (thn (ho pins s σ H _ I h) fun v s1 ⟨x,H1,I1,r1,ty,q1⟩=>?_);obtain⟨h1,h2⟩:=QgK I1 r1 ty;refine⟨T,id,pa,slot,hty,h1,h2,?_⟩;have hA:=ha cpos pins s1 σ H1 _ I1 q1;rw [hs]at hA ⊢
 refine Calls.callWith_builtin (by show(false||(backTo cpos (starEach es X.env)).any (·.1))=false;rw [hplain]<;>rfl) (Calls.evalArgs_plain ?_)
 exact thn hA fun us s2 ⟨vs,H2,I2,r2,q2⟩=>hm pins s2 σ H2 x vs v us Q I2 r1 r2 q2
end
end L2
namespace L2
open PySem PySem.Spec PyProof.Rows
noncomputable def MtM(X:Cx)(id:String)(r:V->List V->Hp->VK->Prop):Prop :=
 ∀(pins:List (Addr×Obj)) (s:Shared) (σ:St) (H:Hp) (x:V) (xs:List V) (v:Value) (us:List Value) (Q:VK),Inv X pins σ H s->RelV x v->Vals xs us->r x xs H Q ->
  wpAny (model X.prog X.w) X.A (call (.builtin id) (v::us)) (EP X pins σ Q) X.xe s
theorem Vals.one:∀{x:V} {us:List Value},Vals [x] us->∃u,us=[u]/\RelV x u
 | _,_,.cons r .nil=>⟨_,rfl,r⟩
theorem Vals.two:∀{x y:V} {us:List Value},Vals [x,y] us->∃u v,us=[u,v]/\RelV x u/\RelV y v
 | _,_,_,.cons r (.cons q .nil)=>⟨_,_,rfl,r,q⟩
theorem Vals.reverse{xs:List V}{us:List Value}(h:Vals xs us):Vals xs.reverse us.reverse:=by
 induction h with
 | nil=>exact .nil
 | cons r t ih=>rw [List.reverse_cons,List.reverse_cons];exact Vals.append ih (.cons r .nil)
theorem Vals.rep{xs:List V}{us:List Value}(h:Vals xs us):∀k:Nat,Vals (List.replicate k xs).flatten (List.replicate k us).flatten
 | 0=>.nil
 | k+1=>by
  rw [List.replicate_succ,List.replicate_succ,List.flatten_cons,List.flatten_cons];exact Vals.append h (Vals.rep h k)
theorem Qaw(its:List Value):∀(k:Nat) (acc:List Value),
  List.foldl (fun x1 x2=>x1++x2) acc.toArray (List.replicate k its.toArray)=(acc++(List.replicate k its).flatten).toArray
 | 0,acc=>by simp
 | k+1,acc=>by
  have e:acc.toArray++its.toArray=(acc++its).toArray:=by simp
  have e2:(acc++its)++(List.replicate k its).flatten=acc++(List.replicate (k+1) its).flatten:=by
   rw [List.replicate_succ,List.flatten_cons,List.append_assoc]
  rw [<-e2,<-Qaw its k (acc++its),<-e,List.replicate_succ,List.foldl_cons]
section
variable {X:Cx}{pins:List (Addr×Obj)}{σ:St}{H:Hp}{s:Shared}{l b:Addr}{xs ys zs:List V}
theorem Inv.lset{its its':List Value}{n:Nat}{f:Array Value->Array Value}{t':Nat}(I:Inv X pins σ H s)(hH:H l=some (.lst xs))
  (e:s.heap.get? l=some { cls:=.type "list",data:=.seq its.toArray n }) (hf:f its.toArray=its'.toArray) (hv:Vals ys its') (hz:ys.length<=sizeLine):
  Inv X pins σ (upd H l (.lst ys)) { s with heap:=s.heap.update l (Obj.mapSeq f),toks:=t' }:=by
 have q:=PySem.IsL.update e f;rw [hf]at q
 refine I.write (x:=l) (e:=l) (by rw [hH];exact trivial) (.inl rfl) (fun b' u hb hu=>(Heap.get?_update_other s.heap (Obj.mapSeq f) (Ne.symm hb)).trans hu) ⟨_,q⟩ ?_
 exact⟨hz,its',_,hv,q⟩
theorem Inv.lnew{its:List Value}{t':Nat}(I:Inv X pins σ H s)(hv:Vals ys its)(hz:ys.length<=sizeLine):
  Inv X pins σ (upd H s.heap.objs.size (.lst ys)) { s with heap:=s.heap.push { cls:=.type "list",data:=.seq its.toArray },toks:=t' }:=
 I.laid (fun _ _ q=>Heap.get?_push_of_some _ q) (Nat.le_refl _) ⟨hz,its,0,hv,Heap.get?_push_size _ rfl⟩
theorem Inv.fresh(I:Inv X pins σ H s):H s.heap.objs.size=none:=I.hok.fresh (Nat.le_refl _)
theorem Inv.lstM (I : Inv X pins σ H s) (hH : H l = some (.lst xs)) : xs.length <= sizeLine /\ ∃ (its : List Value) (n : Nat), Vals xs its /\ xs.length = its.length /\ s.heap.get? l = some { cls := .type "list", data := .seq its.toArray n } := by
 obtain⟨z,its,n,r,e⟩:=I.hok l _ hH;exact⟨z,its,n,r,r.length,e⟩
theorem QbS{n:Nat}(h:n<=sizeLine):Builtin.List.listTooLong n=false:=by
 unfold Builtin.List.listTooLong
 exact decide_eq_false (by omega)
end
section
variable {X:Cx}
noncomputable def Qh4:V->List V->Hp->VK->Prop:=fun x vs H Q=>∃l xs y,x=.ref l/\vs=[y]/\H l=some (.lst xs)/\xs.length<sizeLine/\Q .non (upd H l (.lst (xs++[y])))
theorem Qan:MtM X "list.append" Qh4:=by
 intro pins s σ H x vs v us Q I rx rv h;obtain⟨l,xs,y,rfl,rfl,hH,hz,q⟩:=h;cases rx;obtain⟨u,rfl,ru⟩:=rv.one;obtain⟨z,its,n,r,hl,e⟩:=I.lstM hH
 refine call_meets F.slot_list_append ⟨_,e,rfl⟩ F.entry_list_append (F.args_list_append_2 _ _) (PySem.list_append l its.toArray n u (by rw [List.size_toArray];omega)) ⟨e,?_⟩
 refine⟨.non,_,I.lset (its':=its++[u]) hH e (by simp) (r.append (.cons ru .nil)) ?_,rfl,q⟩
 rw [List.length_append,List.length_singleton];omega
noncomputable def Qh3:V->List V->Hp->VK->Prop:=fun x vs H Q=>∃l b xs zs,x=.ref l/\vs=[.ref b]/\H l=some (.lst xs)/\H b=some (.lst zs)/\xs.length+zs.length<=sizeLine/\Q .non (upd H l (.lst (xs++zs)))
theorem Qd0:MtM X "list.extend" Qh3:=by
 intro pins s σ H x vs v us Q I rx rv h;obtain⟨l,b,xs,zs,rfl,rfl,hH,hB,hz,q⟩:=h;cases rx;obtain⟨u,rfl,ru⟩:=rv.one;cases ru;obtain⟨z,its,n,r,hl,e⟩:=I.lstM hH;obtain⟨z2,its2,n2,r2,hl2,e2⟩:=I.lstM hB
 have hsz:its.toArray.size+its2.toArray.size<=sizeLine:=by rw [List.size_toArray,List.size_toArray];omega
 have hlong:¬(!its.toArray.isEmpty&&Builtin.List.listTooLong (its.toArray.size+its2.toArray.size))=true:=by
  rw [QbS hsz,Bool.and_false];exact Bool.false_ne_true
 refine call_meets F.slot_list_extend ⟨_,e,rfl⟩ F.entry_list_extend (F.args_list_extend_2 _ _)
  (AutoSeq1.list_extend_list_list_0 l its.toArray n b its2.toArray n2 hlong (by rw [List.size_toArray];omega) (by omega)) ⟨e,e2,?_⟩
 refine⟨.non,_,I.lset (its':=its++its2) hH e (by simp) (r.append r2) ?_,rfl,q⟩
 rw [List.length_append];omega
noncomputable def Qpf:R2:=fun x y H Q=>∃l b xs zs,x=.ref l/\y=.ref b/\H l=some (.lst xs)/\H b=some (.lst zs)/\xs.length+zs.length<=sizeLine/\∀p,H p=none->Q (.ref p) (upd H p (.lst (xs++zs)))
theorem Qk3:OpR X (binaryOp .Add) Qpf:=by
 intro pins s σ H x y v u Q I rx ry h;obtain⟨l,b,xs,zs,rfl,rfl,hH,hB,hz,q⟩:=h;cases rx;cases ry;obtain⟨z,its,n,r,hl,e⟩:=I.lstM hH;obtain⟨z2,its2,n2,r2,hl2,e2⟩:=I.lstM hB
 refine PySem.P.add_list e e2 ?_ (by rw [List.size_toArray,List.size_toArray];omega)
 have ea:its.toArray++its2.toArray=(its++its2).toArray:=by simp
 rw [ea]
 exact⟨.ref _,_,I.lnew (t':=s.toks) (r.append r2) (by rw [List.length_append];omega),rfl,q _ I.fresh⟩
noncomputable def Qpe:R2:=fun x y H Q=>∃l k xs,x=.ref l/\y=.int k/\H l=some (.lst xs)/\-(2 ^ 63)<=k/\k<2 ^ 63/\xs.length*k.toNat<=sizeLine /\
 ∀p,H p=none->Q (.ref p) (upd H p (.lst (List.replicate k.toNat xs).flatten))
theorem QiK{α:Type}(xs:List α)(k:Nat):(List.replicate k xs).flatten.length=k*xs.length:=by
 induction k with
 | zero=>simp
 | succ k ih=>rw [List.replicate_succ,List.flatten_cons,List.length_append,ih,Nat.succ_mul,Nat.add_comm]
theorem QkS:OpR X (binaryOp .Mult) Qpe:=by
 intro pins s σ H x y v u Q I rx ry h;obtain⟨l,k,xs,rfl,rfl,hH,h1,h2,hz,q⟩:=h;cases rx;obtain⟨t,rfl⟩:=ry;obtain⟨z,its,n,r,hl,e⟩:=I.lstM hH
 have hlen:its.toArray.size*k.toNat<=sizeLine:=by rw [List.size_toArray,<-hl];exact hz
 have hcap:¬its.toArray.size*k.toNat>(2 ^ 63-1) / 8:=by
  have:(sizeLine:Nat)<=(2 ^ 63-1) / 8:=by decide
  omega
 have hfit:¬(!Builtin.List.listFitsIndex k)=true:=by
  rw [fitsIndex_both h1 h2];exact Bool.false_ne_true
 have hlong:¬Builtin.List.listTooLong (its.toArray.size*k.toNat)=true:=by
  rw [QbS hlen];exact Bool.false_ne_true
 have hnew:List.foldl (fun x1 x2=>x1++x2) #[] (List.replicate (if its.toArray.isEmpty=true then 0 else k.toNat) its.toArray)=(List.replicate k.toNat its).flatten.toArray:=by
  have f0:∀m:Nat,List.foldl (fun x1 x2=>x1++x2) #[] (List.replicate m its.toArray)=(List.replicate m its).flatten.toArray:=fun m=>by
   have:=Qaw its m [];rw [List.nil_append]at this;exact this
  rw [f0]
  cases its with
  | nil=>simp
  | cons a r'=>rw [if_neg (by simp)]
 refine wpAny_binaryOp_repeat_ref (T:="list") (U:="int") (by decide) ⟨_,e,rfl⟩ (fun s'=>typeIs_int s' k t) noFill_list_mul F.fills_int_mul F.slot_int_rmul repeat_list F.slot_int_index.lookup
  (call_meets F.slot_int_rmul (typeIs_int s k t) F.entry_int_rmul (F.args_int_rmul_2 _ _) (int___rmul___int_list k t l its.toArray n)
   ⟨e,rfl,⟨_,e,rfl⟩,call_meets F.slot_list_mul ⟨_,e,rfl⟩ F.entry_list_mul (F.args_list_mul_2 _ _) (AutoListH.list___mul___list_int_3 l its.toArray n k t hfit hcap hlong) ⟨e,?_⟩⟩)
 rw [hnew]
 exact⟨.ref _,_,I.lnew (t':=s.toks) (r.rep k.toNat) (by rw [QiK,Nat.mul_comm];exact hz),rfl,q _ I.fresh⟩
end
section
variable {prog:Program}{w:World}{A:Around}{E:Value->Shared->Prop}{s:Shared}
set_option maxRecDepth 100000 in
end
section
variable {X:Cx}
end
end L2
namespace L2
open PySem PySem.Spec PyProof.Rows
section
variable {κ:Type}[DecidableEq κ]
noncomputable def ZQ(kvs:List (κ×V))(k:κ):Option V:=(kvs.find? fun kv=>decide (kv.1=k)).map (·.2)
noncomputable def ZO(kvs:List (κ×V))(k:κ)(v:V):List (κ×V):=
 if(kvs.any fun kv=>decide (kv.1=k))=true then kvs.map (fun kv=>if kv.1=k then(kv.1,v)else kv)else kvs++[(k,v)]
theorem Yt{p:κ×V}{r:List (κ×V)}{k:κ}(e:p.1=k):ZQ (p::r) k=some p.2:=by simp [ZQ,List.find?_cons,e]
theorem Yu{p:κ×V}{r:List (κ×V)}{k:κ}(e:¬p.1=k):ZQ (p::r) k=ZQ r k:=by simp [ZQ,List.find?_cons,e]
theorem Js(k:κ):∀kvs:List (κ×V),(kvs.any fun kv=>decide (kv.1=k))=(ZQ kvs k).isSome
 | []=>rfl
 | p::r=>by
  rw [List.any_cons];by_cases e:p.1=k
  ·simp only [Yt e,decide_eq_true e,Bool.true_or,Option.isSome_some]
  ·rw [Yu e,decide_eq_false e,Bool.false_or];exact Js k r
theorem Q7(kvs:List (κ×V))(k:κ)(v:V):(ZO kvs k v).length<=kvs.length+1:=by
 unfold ZO;split
 ·rw [List.length_map];omega
 ·rw [List.length_append,List.length_cons,List.length_nil];omega
theorem QfN{kvs:List (κ×V)}{k:κ}(v:V)(h:ZQ kvs k=none):ZO kvs k v=kvs++[(k,v)]:=by
 unfold ZO;rw [Js,h]
 exact if_neg (by decide)
theorem RelO.isSome_eq{o:Option V}{u:Option Value}(r:RelO o u):o.isSome=u.isSome:=by
 cases o with
 | none=>cases u with
  | none=>rfl
  | some _=>exact(show False from r).elim
 | some _=>cases u with
  | none=>exact(show False from r).elim
  | some _=>rfl
theorem RelO.getD{o:Option V}{u:Option Value}{d:V}{d':Value}(r:RelO o u)(rd:RelV d d'):RelV (o.getD d) (u.getD d'):=by
 cases o with
 | none=>cases u with
  | none=>exact rd
  | some _=>exact(show False from r).elim
 | some _=>cases u with
  | none=>exact(show False from r).elim
  | some _=>exact r
theorem KV.val{kvs:List (κ×V)}{vs:List (κ×Value)}(r:KV kvs vs)(k:κ):RelO (ZQ kvs k) (valueAt vs k):=by
 unfold KV at r
 induction r with
 | nil=>exact True.intro
 | @cons p q ps qs h t ih =>
  obtain⟨h1,h2⟩:=h;by_cases e:p.1=k
  ·have e':q.1=k:=h1.symm.trans e
   have b:valueAt (q::qs) k=some q.2:=by simp [valueAt,List.find?_cons,e']
   rw [Yt e,b];exact h2
  ·have e':¬q.1=k:=fun z=>e (h1.trans z)
   have b:valueAt (q::qs) k=valueAt qs k:=by simp [valueAt,List.find?_cons,e']
   rw [Yu e,b];exact ih
theorem KV.any{kvs:List (κ×V)}{vs:List (κ×Value)}(r:KV kvs vs)(k:κ):(kvs.any fun kv=>decide (kv.1=k))=vs.any fun kv=>decide (kv.1=k):=by
 unfold KV at r
 induction r with
 | nil=>rfl
 | cons h t ih=>rw [List.any_cons,List.any_cons,ih,h.1]
theorem KV.repl{kvs:List (κ×V)}{vs:List (κ×Value)}(r:KV kvs vs)(k:κ){y:V}{u:Value}(ry:RelV y u):
  KV (kvs.map fun kv=>if kv.1=k then(kv.1,y)else kv) (vs.map fun kv=>if kv.1=k then(kv.1,u)else kv):=by
 unfold KV at r ⊢
 induction r with
 | nil=>exact .nil
 | @cons p q ps qs h t ih =>
  rw [List.map_cons,List.map_cons];refine .cons ?_ ih;obtain⟨h1,h2⟩:=h;by_cases e:p.1=k
  ·rw [if_pos e,if_pos (h1.symm.trans e)];exact⟨h1,ry⟩
  ·rw [if_neg e,if_neg (fun z=>e (h1.trans z))];exact⟨h1,h2⟩
theorem KV.put{kvs:List (κ×V)}{vs:List (κ×Value)}(r:KV kvs vs)(k:κ){y:V}{u:Value}(ry:RelV y u):KV (ZO kvs k y) (stored vs k u):=by
 unfold ZO stored;rw [r.any k];by_cases e:(vs.any fun kv=>decide (kv.1=k))=true
 ·rw [if_pos e,if_pos e];exact r.repl k ry
 ·rw [if_neg e,if_neg e];exact Paired.snoc r ⟨rfl,ry⟩
theorem KV.length{kvs:List (κ×V)}{vs:List (κ×Value)}(r:KV kvs vs):kvs.length=vs.length:=Paired.length r
end
theorem YQ{P:Program}{w:World}{k:Key}{u:Value}(r:RelV (kV k) u):(Qq P w).is k u=true:=by
 cases k with
 | inl i=>obtain⟨t,e⟩:=(show ∃t,u=Value.int i t from r);subst e;exact Qa5 P w i t
 | inr x=>obtain⟨t,e⟩:=(show ∃t,u=Value.str x t from r);subst e;exact Qa4 P w x t
theorem Qas{P:Program}{w:World}:∀{ks:List Key} {us:List Value},Vals (ks.map kV) us->ItemsAre (Qq P w) ks us
 | [],_,r=>by rw [List.map_nil]at r;cases r;exact .nil
 | k::ks,_,r=>by
  rw [List.map_cons]at r
  cases r with
  | cons h t=>exact .cons (YQ h) (Qas t)
noncomputable abbrev KT(H:Hp):List (List Key×V)->List (List Key×Addr×Value)->Prop:=Paired fun p q=>p.1=q.1/\H q.2.1=some (.tup (p.1.map kV))/\RelV p.2 q.2.2
theorem KT.val{H:Hp}{kvs:List (List Key×V)}{xs:List (List Key×Addr×Value)}(r:KT H kvs xs)(k:List Key):RelO (ZQ kvs k) ((atKey xs k).map (·.2)):=by
 induction r with
 | nil=>exact True.intro
 | @cons p q ps qs h t ih =>
  obtain⟨h1,_,h2⟩:=h;by_cases e:p.1=k
  ·have e':q.1=k:=h1.symm.trans e
   have b:atKey (q::qs) k=some q.2:=by simp [atKey,List.find?_cons,e']
   rw [Yt e,b];exact h2
  ·have e':¬q.1=k:=fun z=>e (h1.trans z)
   have b:atKey (q::qs) k=atKey qs k:=by simp [atKey,List.find?_cons,e']
   rw [Yu e,b];exact ih
theorem KT.repl{H:Hp}{kvs:List (List Key×V)}{xs:List (List Key×Addr×Value)}(r:KT H kvs xs)(k:List Key){y:V}{u:Value}(ry:RelV y u):
  KT H (kvs.map fun kv=>if kv.1=k then(kv.1,y)else kv) (xs.map (putAt k u)):=by
 induction r with
 | nil=>exact .nil
 | @cons p q ps qs h t ih =>
  rw [List.map_cons,List.map_cons];refine .cons ?_ ih;obtain⟨h1,h2,h3⟩:=h;unfold putAt;by_cases e:p.1=k
  ·rw [if_pos e,if_pos (h1.symm.trans e)];exact⟨h1,h2,ry⟩
  ·rw [if_neg e,if_neg (fun z=>e (h1.trans z))];exact⟨h1,h2,h3⟩
theorem KT.put{H:Hp}{kvs:List (List Key×V)}{xs:List (List Key×Addr×Value)}(r:KT H kvs xs)(k:List Key){b:Addr}{y:V}{u:Value}(hb:H b=some (.tup (k.map kV)))(ry:RelV y u):
  KT H (ZO kvs k y) (storedH xs k b u):=by
 have e:(kvs.any fun kv=>decide (kv.1=k))=(atKey xs k).isSome:=by
  rw [Js,(r.val k).isSome_eq,Option.isSome_map]
 unfold ZO storedH;rw [e];by_cases q:(atKey xs k).isSome=true
 ·rw [if_pos q,if_pos q];exact r.repl k ry
 ·rw [if_neg q,if_neg q];exact Paired.snoc r ⟨rfl,hb,ry⟩
theorem KT.keeps{H H':Hp}{kvs:List (List Key×V)}{xs:List (List Key×Addr×Value)}(r:KT H kvs xs)(ht:∀b ys,H b=some (.tup ys)->H' b=some (.tup ys)):KT H' kvs xs :=
 Paired.mapP r fun _ _ z=>⟨z.1,ht _ _ z.2.1,z.2.2⟩
section
variable {P:Program}{w:World}{H:Hp}{h:Heap}{a:Addr}
theorem Qko{u:HO}(ok:HOk P w H h)(e:Rd H a u):ObjOk P w H h a u:=e.ok ok
theorem QcM{kvs:List (Key×V)}(ok:HOk P w H h)(e:Rd H a (.dK kvs)):kvs.length<=sizeLine/\(a==sysModules)=false/\∃vs,KV kvs vs/\h.DictOf (Qq P w) a vs :=
 show ObjOk P w H h a (.dK kvs)from Qko ok e
theorem Qbi{kvs:List (Key×V)}(ok:HOk P w H h)(e:H a=some (.dK kvs)):kvs.length<=sizeLine/\(a==sysModules)=false/\∃vs,KV kvs vs/\h.DictOf (Qq P w) a vs:=QcM ok (.inl e)
theorem YO{ks:List Key}(ok:HOk P w H h)(e:H a=some (.tup (ks.map kV))):(tupleKind (Qq P w)).is h ks a:=by
 obtain⟨_,its,r,o,h1,h2,n,h3⟩:=(show ObjOk P w H h a (.tup (ks.map kV))from ok a _ e)
 exact⟨o,its.toArray,n,h1,h2,h3,by simpa using Qas r⟩
theorem QcK{kvs:List (List Key×V)}(ok:HOk P w H h)(e:Rd H a (.dT kvs)):kvs.length<=sizeLine/\(a==sysModules)=false /\
  ∃xs,KT H kvs xs/\h.DictOfH (tupleKind (Qq P w)) a xs:=by
 obtain⟨z,y,xs,r,o,es,ep,h1,h2,h3,h4,h5⟩:=(show ObjOk P w H h a (.dT kvs)from Qko ok e);refine⟨z,y,xs,r,o,es,ep,h1,h2,h3,h4,fun x hx=>?_,h5⟩
 have all:∀{l:List (List Key×V)} {m:List (List Key×Addr×Value)},KT H l m->∀x∈m,(tupleKind (Qq P w)).is h x.1 x.2.1:=by
  intro l m q
  induction q with
  | nil=>intro x hx;exact nomatch hx
  | @cons p q ps qs hq t ih =>
   intro x hx
   rcases List.mem_cons.mp hx with e | hx
   ·subst e
    exact YO ok (by rw [<-hq.1];exact hq.2.1)
   ·exact ih x hx
 exact all r x hx
theorem QnJ{kvs:List (List Key×V)}(ok:HOk P w H h)(e:H a=some (.dT kvs)):kvs.length<=sizeLine/\(a==sysModules)=false /\
  ∃xs,KT H kvs xs/\h.DictOfH (tupleKind (Qq P w)) a xs:=QcK ok (.inl e)
end
noncomputable def DGet(H:Hp)(a:Addr)(y:V)(r:Option V):Prop :=
 (∃kvs k,Rd H a (.dK kvs)/\y=kV k/\r=ZQ kvs k)\/∃kvs k b,Rd H a (.dT kvs)/\y=.ref b/\H b=some (.tup (k.map kV))/\r=ZQ kvs k
noncomputable def DPut(H:Hp)(a:Addr)(y v:V)(H':Hp):Prop :=
 (∃kvs k,H a=some (.dK kvs)/\y=kV k/\kvs.length<sizeLine/\H'=upd H a (.dK (ZO kvs k v))) \/
 ∃kvs k b,H a=some (.dT kvs)/\y=.ref b/\H b=some (.tup (k.map kV))/\kvs.length<sizeLine/\H'=upd H a (.dT (ZO kvs k v))
theorem DGet.k{H:Hp}{a:Addr}{kvs:List (Key×V)}{k:Key}(e:H a=some (.dK kvs)):DGet H a (kV k) (ZQ kvs k):=.inl ⟨kvs,k,.inl e,rfl,rfl⟩
theorem DGet.t{H:Hp}{a b:Addr}{kvs:List (List Key×V)}{k:List Key}(e:H a=some (.dT kvs))(eb:H b=some (.tup (k.map kV))):DGet H a (.ref b) (ZQ kvs k):=.inr ⟨kvs,k,b,.inl e,rfl,eb,rfl⟩
theorem DPut.k{H:Hp}{a:Addr}{kvs:List (Key×V)}{k:Key}{v:V}(e:H a=some (.dK kvs))(hl:kvs.length<sizeLine):DPut H a (kV k) v (upd H a (.dK (ZO kvs k v))):=.inl ⟨kvs,k,e,rfl,hl,rfl⟩
theorem DPut.t{H:Hp}{a b:Addr}{kvs:List (List Key×V)}{k:List Key}{v:V}(e:H a=some (.dT kvs))(eb:H b=some (.tup (k.map kV)))(hl:kvs.length<sizeLine):
  DPut H a (.ref b) v (upd H a (.dT (ZO kvs k v))):=.inr ⟨kvs,k,b,e,rfl,eb,hl,rfl⟩
section
variable {X:Cx}{pins:List (Addr×Obj)}{σ:St}{H:Hp}{s:Shared}{a:Addr}{y v:V}{u r:Value}{o:Option V}{A:Around}{E:Value->Shared->Prop}
theorem Inv.big(I:Inv X pins σ H s):sysModules<s.heap.objs.size:=by
 have h:mainGlobals<s.heap.objs.size:=(I.mod.glob.keeps I.bk).lt
 exact Nat.lt_trans (by decide) h
theorem QeN{Q:Value->Shared->Prop}(hu:A.units+1<cLine)(I:Inv X pins σ H s)(g:DGet H a y (some v))(ry:RelV y u)(h:∀w' s',Inv X pins σ H s'->RelV v w'->Q w' s'):
  wpAny (model X.prog X.w) A (getItem (.ref a) u) Q E s:=by
 rcases g with⟨kvs,k,e,ey,l⟩ | ⟨kvs,k,b,e,ey,eb,l⟩
 ·subst ey;obtain⟨z,hd,vs,rel,dd⟩:=QcM I.hok e
  obtain⟨w',hw,rw'⟩:=RelO.some_of (v:=v) (o:=valueAt vs k) (by rw [l];exact rel.val k)
  exact wpAny_getItem_of (YQ ry) dd.mapOf hw (h w' _ (I.tok _) rw')
 ·subst ey;cases(show u=Value.ref b from ry);obtain⟨z,hd,xs,rel,dd⟩:=QcK I.hok e
  obtain⟨w',hw,rw'⟩:=RelO.some_of (v:=v) (o:=(atKey xs k).map (·.2)) (by rw [l];exact rel.val k)
  obtain⟨p,hp,hp2⟩:=Option.map_eq_some_iff.mp hw;refine wpAny_getItem_heap (tupleKind_room_in1 hu) (YO I.hok eb) dd hp ?_;rw [hp2];exact h w' _ (I.tok _) rw'
theorem Qpy{Q:Value->Shared->Prop}(hu:A.units+1<cLine)(I:Inv X pins σ H s)(g:DGet H a y o)(ry:RelV y u)(h:∀s',Inv X pins σ H s'->Q (.bool o.isSome) s'):
  wpAny (model X.prog X.w) A (compareOp .In u (.ref a)) Q E s:=by
 rcases g with⟨kvs,k,e,ey,l⟩ | ⟨kvs,k,b,e,ey,eb,l⟩
 ·subst ey;obtain⟨z,hd,vs,rel,dd⟩:=QcM I.hok e;refine wpAny_in_of (YQ ry) hd dd.mapOf ?_;rw [<-(rel.val k).isSome_eq,<-l];exact h _ (I.tok _)
 ·subst ey;cases(show u=Value.ref b from ry);obtain⟨z,hd,xs,rel,dd⟩:=QcK I.hok e;refine wpAny_in_heap (tupleKind_room_in1 hu) (YO I.hok eb) hd dd ?_;have q:=(rel.val k).isSome_eq;rw [Option.isSome_map]at q;rw [<-q,<-l];exact h _ (I.tok _)
theorem Qja{Q:Value->Shared->Prop}(hu:A.units+1<cLine)(I:Inv X pins σ H s)(g:DGet H a y o)(ry:RelV y u)(h:∀s',Inv X pins σ H s'->Q (.bool (!o.isSome)) s'):
  wpAny (model X.prog X.w) A (compareOp .NotIn u (.ref a)) Q E s:=by
 rcases g with⟨kvs,k,e,ey,l⟩ | ⟨kvs,k,b,e,ey,eb,l⟩
 ·subst ey;obtain⟨z,hd,vs,rel,dd⟩:=QcM I.hok e;refine wpAny_notIn_of (YQ ry) hd dd.mapOf ?_;rw [<-(rel.val k).isSome_eq,<-l];exact h _ (I.tok _)
 ·subst ey;cases(show u=Value.ref b from ry);obtain⟨z,hd,xs,rel,dd⟩:=QcK I.hok e;refine wpAny_notIn_heap (tupleKind_room_in1 hu) (YO I.hok eb) hd dd ?_;have q:=(rel.val k).isSome_eq;rw [Option.isSome_map]at q;rw [<-q,<-l];exact h _ (I.tok _)
theorem YV{h':Heap}{t':Nat}{ob:HO}(I:Inv X pins σ H s)(mu:Mut (H a))(hs:Heap.SameBut a s.heap h')(he:∃q,h'.get? a=some q)(new:ObjOk X.prog X.w (upd H a ob) h' a ob):
  Inv X pins σ (upd H a ob) { s with heap:=h',toks:=t' }:=
 I.write (x:=a) (e:=a) mu (.inl rfl) (fun b q hb z=>(hs.2 b hb).trans z) he new
theorem Qcd{P:Program}{w:World}{H':Hp}{h':Heap}{kvs:List (Key×V)}{vs:List (Key×Value)}(z:kvs.length<=sizeLine)(hd:(a==sysModules)=false)(rel:KV kvs vs)(dd:h'.DictOf (Qq P w) a vs):
  ObjOk P w H' h' a (.dK kvs):=⟨z,hd,vs,rel,dd⟩
theorem QeM{H':Hp}{Q:Unit->Shared->Prop}(hu:A.units+1<cLine)(I:Inv X pins σ H s)(g:DPut H a y v H')(ry:RelV y u)(rv:RelV v r)(h:∀s',Inv X pins σ H' s'->Q () s'):
  wpAny (model X.prog X.w) A (setItem (.ref a) u r) Q E s:=by
 rcases g with⟨kvs,k,e,ey,l,eH⟩ | ⟨kvs,k,b,e,ey,eb,l,eH⟩
 ·subst ey eH;obtain⟨z,hd,vs,rel,dd⟩:=Qbi I.hok e
  have hz:vs.length<=sizeLine:=by rw [<-rel.length];exact z
  have hl:(ZO kvs k v).length<=sizeLine:=by have:=Q7 kvs k v;omega
  refine wpAny_setItem_pairs (hsz:=hz) (YQ ry) dd fun h' dd' hs=>h _ ?_;have he:∃q,h'.get? a=some q:=let ⟨q,_,_,hq,_⟩:=dd';⟨q,hq⟩
  exact YV I (by rw [e];exact True.intro) hs he (Qcd hl hd (rel.put k rv) dd')
 ·subst ey eH;cases(show u=Value.ref b from ry);obtain⟨z,hd,xs,rel,dd⟩:=QnJ I.hok e
  have hz:xs.length<=sizeLine:=by rw [<-Paired.length rel];exact z
  have hl:(ZO kvs k v).length<=sizeLine:=by have:=Q7 kvs k v;omega
  refine wpAny_setItem_heap (hsz:=hz) (tupleKind_room_in1 hu) (YO I.hok eb) dd fun h' dd' hs=>h _ ?_;obtain⟨q,es,ep,hq,h2,h3,h4,_,h5⟩:=dd'
  refine YV I (by rw [e];exact True.intro) hs ⟨q,hq⟩ ⟨hl,hd,_,(rel.put k eb rv).keeps fun c ys ec=>?_,q,es,ep,hq,h2,h3,h4,h5⟩
  rw [Qe (Qnh ec e (fun z=>nomatch z))];exact ec
end
section
variable {X:Cx}{pins:List (Addr×Obj)}{σ:St}{H:Hp}{s:Shared}{a:Addr}{kvs:List (Key×V)}{k:Key}{u:Value}{A:Around}{E:Value->Shared->Prop}
end
noncomputable def Qp4(i:Expr):Prop:=∀ov iv,subscripted i false ov iv=operate [ov,iv] (getItem ov iv)
theorem QhJ{prog:Program}{w:World}{A:Around}{E:Value->Shared->Prop}{s:Shared}{env:Env}{value slice:Expr}{pos:Pos}{T id:String}{Q:Value->Shared->Prop}
  (hl:typeLookup (.type T) "__getitem__"=pure (some (.builtin id))) (hs:Qp4 slice)
  (h:wpAny (model prog w) A (eval value env) (fun o s₁=>wpAny (model prog w) A (eval slice env) (fun i s₂=>s₂.TypeIs o T/\wpAny (model prog w) A (getItem o i) Q E s₂) E s₁) E s):
  wpAny (model prog w) A (eval (.Subscript value slice pos) env) Q E s:=by
 refine Subscript_ (wpAny_mono h (fun o s₁ h₁=>wpAny_mono h₁ (fun i s₂ h₂=>?_) fun _ _ x=>x) fun _ _ x=>x);obtain⟨hT,h₂⟩:=h₂;unfold subscriptTail;refine wpAny_bind ?_;rw [getitemInPython_of_ne hT.not_modules];refine wpAny_bind (wpAny_specialOf hT hl ?_)
 have fin:wpAny (model prog w) A (subscripted slice false o i) (fun r s₃=>wpAny (model prog w) A (letTemporaryGo value o r >>= fun _=>pure r) Q E s₃) E s₂:=by
  rw [hs o i];exact wpAny_operating (wpAny_mono h₂ (fun r s₃ h₃=>wpAny_bind (wpAny_letTemporaryGo (wpAny_pure h₃))) fun _ _ x=>x)
 first
  | exact wpAny_pure (wpAny_bind fin)
  | exact wpAny_bind (wpAny_pure (wpAny_bind fin))
  | exact wpAny_bind fin
theorem Qbj{X:Cx}{pins:List (Addr×Obj)}{σ:St}{H:Hp}{s:Shared}{a:Addr}{y:V}{o:Option V}(I:Inv X pins σ H s)(g:DGet H a y o):s.TypeIs (.ref a) "dict":=by
 rcases g with⟨kvs,k,e,_,_⟩ | ⟨kvs,k,b,e,_,_,_⟩
 ·obtain⟨_,_,vs,_,dd⟩:=QcM I.hok e;exact dd.typeIs
 ·obtain⟨_,_,xs,_,dd⟩:=QcK I.hok e;exact dd.typeIs
section
variable {X:Cx}{o i e value:Expr}{pos pos' tpos:Pos}{td ty tv:TE}
end
theorem Qce{P:Program}{w:World}{H:Hp}(h:Heap)(hb:sysModules<h.objs.size):ObjOk P w H (h.push { cls:=.type "dict",data:=.dict #[] }) h.objs.size (.dK []):=
 ⟨Nat.zero_le _,beq_eq_false_iff_ne.mpr (Ne.symm (Nat.ne_of_lt hb)),[],.nil,Heap.DictOf.new h⟩
theorem Qgq{P:Program}{w:World}{H:Hp}(h:Heap)(hb:sysModules<h.objs.size):ObjOk P w H (h.push { cls:=.type "dict",data:=.dict #[] }) h.objs.size (.dT []):=
 ⟨Nat.zero_le _,beq_eq_false_iff_ne.mpr (Ne.symm (Nat.ne_of_lt hb)),[],.nil,_,#[],0,Heap.get?_push_size _ rfl,⟨rfl,rfl,rfl⟩,rfl,rfl,List.nodup_nil⟩
noncomputable def QjZ:TE:=fun _ H Q=>∀p,H p=none->Q (.ref p) (upd H p (.dK []))
noncomputable def QjY:TE:=fun _ H Q=>∀p,H p=none->Q (.ref p) (upd H p (.dT []))
section
variable {X:Cx}{pos:Pos}
theorem Qf1:PE X (.Dict [] [] pos) QjZ:=fun pins s σ H Q I h =>
 wpAny_Dict_empty ⟨.ref s.heap.objs.size,_,I.laid (a:=s.heap.objs.size) (o:=.dK []) (t':=s.toks) (fun _ _ q=>Heap.get?_push_of_some _ q) (Nat.le_refl _) (Qce s.heap I.big),rfl,h _ (I.hok.fresh (Nat.le_refl _))⟩
theorem Qf0:PE X (.Dict [] [] pos) QjY:=fun pins s σ H Q I h =>
 wpAny_Dict_empty ⟨.ref s.heap.objs.size,_,I.laid (a:=s.heap.objs.size) (o:=.dT []) (t':=s.toks) (fun _ _ q=>Heap.get?_push_of_some _ q) (Nat.le_refl _) (Qgq s.heap I.big),rfl,h _ (I.hok.fresh (Nat.le_refl _))⟩
end
noncomputable def QbB:List (TE×TE)->St->Hp->(List (V×V)->Hp->Prop)->Prop
 | [],_,H,Q=>Q [] H
 | (tk,tv)::r,σ,H,Q=>tk σ H fun x H1=>tv σ H1 fun y H2=>QbB r σ H2 fun ps H3=>Q ((x,y)::ps) H3
noncomputable abbrev VV:List (V×V)->List (Value×Value)->Prop:=Paired fun p q=>RelV p.1 q.1/\RelV p.2 q.2
noncomputable def PPs(X:Cx)(pos:Pos)(keys:List (Option Expr))(values:List Expr)(trs:List (TE×TE)):Prop :=
 ∀(pins:List (Addr×Obj)) (s:Shared) (σ:St) (H:Hp) (Q:List (V×V)->Hp->Prop),Inv X pins σ H s->QbB trs σ H Q ->
  wpAny (model X.prog X.w) X.A (evalPairs (pairTrees keys values X.env pos)) (fun vs s'=>∃ps H',Inv X pins σ H' s'/\VV ps vs/\Q ps H') X.xe s
theorem Qie{X:Cx}{pos:Pos}:PPs X pos [] [] []:=fun pins s σ H Q I h=>pairTrees_nil_walk ⟨[],H,I,.nil,h⟩
theorem QfV{X:Cx}{pos:Pos}{k v:Expr}{ks:List (Option Expr)}{vs:List Expr}{tk tv:TE}{trs:List (TE×TE)}(hk:PE X k tk)(hv:PE X v tv)(hr:PPs X pos ks vs trs):
  PPs X pos (some k::ks) (v::vs) ((tk,tv)::trs):=fun pins s σ H Q I h =>
 pairTrees_cons_walk (thn (hk pins s σ H _ I h) fun u s1 ⟨x,H1,I1,rx,q1⟩=>thn (hv pins s1 σ H1 _ I1 q1) fun w2 s2 ⟨y,H2,I2,ry,q2⟩=>
  thn (hr pins s2 σ H2 _ I2 q2) fun ws s3 ⟨ps,H3,I3,rel,q3⟩=>⟨(x,y)::ps,H3,I3,.cons ⟨rx,ry⟩ rel,q3⟩)
noncomputable def ZX(kvs more:List (Key×V)):List (Key×V):=more.foldl (fun acc kv=>ZO acc kv.1 kv.2) kvs
theorem KV.merge:∀{more:List (Key×V)} {rs:List (Key×Value)} {kvs:List (Key×V)} {vs:List (Key×Value)},KV more rs->KV kvs vs->KV (ZX kvs more) (merged vs rs):=by
 intro more rs kvs vs r;unfold KV at r
 induction r generalizing kvs vs with
 | nil=>intro q;exact q
 | @cons p q ps qs h t ih =>
  intro r0
  have e:KV (ZO kvs p.1 p.2) (stored vs q.1 q.2):=by
   have:=r0.put p.1 h.2;rw [<-h.1];exact this
  exact ih e
theorem Zk:∀(more kvs:List (Key×V)),(ZX kvs more).length<=kvs.length+more.length
 | [],kvs=>by show kvs.length<=kvs.length+0;omega
 | p::r,kvs=>by
  have h1:=Zk r (ZO kvs p.1 p.2);have h2:=Q7 kvs p.1 p.2;show(ZX (ZO kvs p.1 p.2) r).length<=_;rw [List.length_cons];omega
theorem Jr{P:Program}{w:World}:∀{kvs:List (Key×V)} {ws:List (Value×Value)},VV (kvs.map fun kv=>(kV kv.1,kv.2)) ws->∃rs,Carries (Qq P w) ws rs/\KV kvs rs
 | [],_,r=>by rw [List.map_nil]at r;cases r;exact⟨[],True.intro,.nil⟩
 | p::kvs,_,r=>by
  rw [List.map_cons]at r
  cases r with
  | @cons a b as bs h t =>
   obtain⟨rs,c,q⟩:=Jr (P:=P) (w:=w) t;obtain⟨b1,b2⟩:=b;exact⟨(p.1,b2)::rs,⟨YQ h.1,rfl,c⟩,.cons ⟨rfl,h.2⟩ q⟩
noncomputable def QmA(trs:List (TE×TE)):TE:=fun σ H Q=>∀p,H p=none->QbB trs σ (upd H p (.dK [])) fun ps H2=>H2 p=some (.dK [])/\∃kvs:List (Key×V),ps=kvs.map (fun kv=>(kV kv.1,kv.2))/\kvs.length<=15/\Q (.ref p) (upd H2 p (.dK (ZX [] kvs)))
theorem Qin{X:Cx}{pos:Pos}{keys:List (Option Expr)}{values:List Expr}{trs:List (TE×TE)}(h:PPs X pos keys values trs)(hall:keys.all (·.isSome)=true)(hl:keys.length=values.length)(h0:keys≠[])
  (h15:keys.length<=15):PE X (.Dict keys values pos) (QmA trs):=by
 intro pins s σ H Q I q;have hn:=I.hok.fresh (Nat.le_refl s.heap.objs.size);have I1:=I.laid (a:=s.heap.objs.size) (o:=.dK []) (h':=s.heap.push { cls:=.type "dict",data:=.dict #[] }) (t':=s.toks) (fun _ _ q=>Heap.get?_push_of_some _ q) (Nat.le_refl _) (Qce s.heap I.big);refine wpAny_Dict_walk (knd:=Qq X.prog X.w) hall hl h0 h15 (thn (h pins _ σ _ _ I1 (q _ hn)) fun ws s2 ⟨ps,H2,I2,rel,e,kvs,ep,lk,q2⟩=>?_);subst ep;obtain⟨rs,c,rk⟩:=Jr (P:=X.prog) (w:=X.w) rel;obtain⟨z,hd,vs0,r0,dd⟩:=Qbi I2.hok e;cases r0;refine⟨rs,c,dd,fun h' dd' hs=>⟨.ref s.heap.objs.size,_,?_,rfl,q2⟩⟩
 have hz:(ZX [] kvs).length<=sizeLine:=by
  have h1:=Zk kvs [];rw [List.length_nil]at h1;rw [sizeLine_eq];omega
 have he:∃q,h'.get? s.heap.objs.size=some q:=let ⟨q,_,_,hq,_⟩:=dd';⟨q,hq⟩
 exact YV I2 (by rw [e];exact True.intro) hs he (Qcd hz hd (rk.merge .nil) dd')
section
variable {X:Cx}{pins:List (Addr×Obj)}{σ:St}{H:Hp}{s:Shared}{a:Addr}{y d:V}{u r:Value}{o:Option V}{A:Around}{E:Value->Shared->Prop}
theorem QlC{Q:Value->Shared->Prop}(hu:A.units+1<cLine)(I:Inv X pins σ H s)(g:DGet H a y o)(ry:RelV y u)(rd:RelV d r)(h:∀w' s',Inv X pins σ H s'->RelV (o.getD d) w'->Q w' s'):
  wpAny (model X.prog X.w) A (call (.builtin "dict.get") [.ref a,u,r]) Q E s:=by
 rcases g with⟨kvs,k,e,ey,l⟩ | ⟨kvs,k,b,e,ey,eb,l⟩
 ·subst ey;obtain⟨z,hd,vs,rel,dd⟩:=QcM I.hok e;refine call_meetsIn PySem.F.slot_dict_get dd.typeIs PySem.F.entry_dict_get (PySem.F.args_dict_get_3 _ _ _) (meets_dict_get_default (Qq X.prog X.w) a (YQ ry) hd r) ⟨_,dd.mapOf,h _ _ (I.tok _) ?_⟩;rw [l];exact(rel.val k).getD rd
 ·subst ey;cases(show u=Value.ref b from ry);obtain⟨z,hd,xs,rel,dd⟩:=QcK I.hok e;refine call_meetsIn PySem.F.slot_dict_get dd.typeIs PySem.F.entry_dict_get (PySem.F.args_dict_get_3 _ _ _) (meetsH_dict_get_default (tupleKind (Qq X.prog X.w)) a b hd r) ⟨tupleKind_room_in1 hu,k,xs,YO I.hok eb,dd,h _ _ (I.tok _) ?_⟩;rw [l];exact(rel.val k).getD rd
end
section
variable {X:Cx}{o e f:Expr}{apos cpos:Pos}{td ty tx:TE}
end
section
variable {X:Cx}{pins:List (Addr×Obj)}{σ:St}{H:Hp}{s:Shared}{a:Addr}{kvs:List (Key×V)}{A:Around}{E:Value->Shared->Prop}
end
section
variable {X:Cx}{pins:List (Addr×Obj)}{σ:St}{H:Hp}{s:Shared}{a:Addr}{y:V}{u:Value}{A:Around}{E:Value->Shared->Prop}
end
end L2
namespace Att
open PySem PySem.W PySem.Calls PyProof.Rows
theorem YR{P:Params}{h:Heap}:∀(ns:List Int) (vs:List Value),WellAll P h vs (ns.map WData.int)->IntsAre vs ns:=by
 intro ns
 induction ns with
 | nil =>
  intro vs w;rw [List.map_nil]at w;cases w;exact .nil
 | cons n ns ih =>
  intro vs w;rw [List.map_cons]at w
  cases w with
  | cons a b =>
   cases a;exact .cons _ _ (ih _ b)
theorem Qdu{l:OpenLaw}{n:Nat}(hn:l.most=some n){P:Params}{h:Heap}{args:List WData}{vals:List Value}
  (hpre:l.row.toRowW.claim.pre args=true) (hwl:WellAll P h vals args):
  ∃ a vs ns, vals = [Value.ref a] /\ args = [WData.list (ns.map WData.int)] /\ h.get? a = some { cls := .type "list", data := .seq vs.toArray } /\ IntsAre vs ns /\ ns.length <= n := by
 have hsh:WShape.hasAll [] args [.list .int]=true:=(pre_splitW hpre).1;have hc:l.pre.holds [] { args:=args }=true:=(pre_splitW hpre).2;obtain⟨d,r,rfl,h1,h2⟩:=hasAllW_cons hsh;obtain rfl:=hasAllW_nil h2;obtain⟨xs,rfl,h3⟩:=hasW_list h1;obtain⟨ns,rfl⟩:=items_int h3
 have hlen:ns.length<=n:=by
  unfold OpenLaw.pre at hc
  have h4:(WTm.not (.lt (.lit (.int (n:Int))) (.len (.arg 0)))).holds [] { args:=[.list (ns.map .int)] }=true:=by
   have h4:=(holds_andW hc).1;rw [hn]at h4;exact h4
  have h5:=condW_of h4 (w_not (w_lt w_lit (w_len_list (w_arg rfl))));rw [List.length_map]at h5;refine Nat.le_of_not_lt fun q=>?_
  have q':(n:Int) < ((ns.length:Nat):Int):=by omega
  first
   | (rw [decide_eq_true q']at h5;exact absurd h5 (by decide))
   | (simp at h5;omega)
 cases hwl with
 | cons w1 w2 =>
  cases w2
  cases w1 with
  | list ho hall=>exact⟨_,_,ns,rfl,rfl,ho,YR ns _ hall,hlen⟩
theorem QdG(l:OpenLaw)(args:List WData):l.row.toRowW.claim.post args (.bool true) args=true :=
 postW_of (r:=l.row.toRowW) (X:=(true==true))
  (show WShape.has [] (.bool true) .bool=true by first | rfl | decide | simp [WShape.has,WShape.arms,WShape.armsAll])
  (show(WTm.eq .res (.lit (.bool true))).value [] { args:=args,res:=some (.bool true),after:=args }=some (.bool (true==true))from w_eq_bool (w_res rfl) w_lit) rfl
theorem attach_call{l:OpenLaw}{n:Nat}{q:Program}{loose:List Str}{XP:(Str->Option Value)->Heap->Prop}{YP:World->Heap->Prop}{d:DefRec}
  (hn:l.most=some n) (hdf:d.params.defaults=[])
  (call:∀(w:World) (s₀ s₁:Shared) (mg mb:Str->Option Value) (fa:Addr) (o:Obj) (pm cd doc:Value) (a:Addr) (vs:List Value) (ns:List Int),
   Ground q loose [] XP w s₀ mg mb s₁.heap->YP w s₁.heap ->
   s₁.heap.get? fa=some o->o.data=.func (docDef d.name d.params d.body d.scope pm cd doc)->s₁.heap.CodeRec cd d.name->mg d.name=some (.ref fa) ->
   s₁.heap.get? a=some { cls:=.type "list",data:=.seq vs.toArray }->IntsAre vs ns->ns.length<=n->s₁.gens=#[] ->
   codeAny (model l.prog w) callerA (.call (.ref fa) ⟨[.ref a],[]⟩) (fun r s'=>r=.ok (.ret (.bool true))/\OldK s₁.heap s'.heap/\s'.os=s₁.os/\AllBare s'.gens) s₁):
  WalkO q loose XP YP l.row.toRowW d [] (fun f vs=>PySem.call f vs):=by
 intro w s₀ s₁ mg mb G Y fa o pm cd doc dV kV ho hd hcd hD hmg hg args vals as hpre hlay hrd hwl hlo;obtain rfl:dV=.none:=Dflts.none hD hdf;obtain rfl:kV=.none:=Dflts.noKw hD;obtain⟨a,vs,ns,rfl,rfl,hobj,hints,hlen⟩:=Qdu hn hpre hwl;refine enter_call (codeAny_mono (call w s₀ s₁ mg mb fa o pm cd doc a vs ns G Y ho (fd_plain hd) hcd hmg hobj hints hlen hg) fun r s' hq=>?_);obtain⟨rfl,h2,h3,h4⟩:=hq;exact⟨.inl ⟨.bool true,.bool true,[],rfl,fun _=>rfl,.bool true,QdG l _,fun _=>⟨List.Pairwise.nil,fun _ hm=>(nomatch hm)⟩⟩,h2,h3,h4⟩
section
variable {prog:Program}{w:World}{A:Around}{E:Value->Shared->Prop}{s:Shared}{K:Frag}
end
end Att
namespace L2
open PySem PySem.Spec PyProof.Rows
theorem JX:∀{vs:List Value} {ns:List Int},IntsAre vs ns->Vals (ns.map V.int) vs
 | _,_,.nil=>.nil
 | _,_,.cons n t h=>.cons ⟨t,rfl⟩ (JX h)
noncomputable def Qmj(H:Hp):Prop:=∀b,H b=none\/∃o xs,H b=some (.frz o (.lst xs))
theorem Qga{P:Program}{w:World}{K:PySem.W.Frag}{mg mb:Str->Option Value}{CX:CXT}{k:Nat}{fa a:Addr}{fd:FuncData}{x:Str}{sp:Sp}{s₁:Shared}{vs:List Value}{ns:List Int}
  (KX:K.In s₁.heap) (hns:s₁.heap.Ns mainGlobals mg) (hb:s₁.heap.Ns builtinsNs mb) (hbb:∀x:Str,x≠"__name__"->mb x=bootBuiltins x) (hlim:s₁.heap.NoLimit) (hg:s₁.gens=#[])
  (ha:s₁.heap.get? a=some { cls:=.type "list",data:=.seq vs.toArray }) (hi:IntsAre vs ns) (hl:ns.length<=sizeLine) (hr:Room k callerA)
  (F:∀base:Heap,K.In base->base.Ns mainGlobals mg->FnOk P w K mg base CX k fa fd [x] sp) (hbind:∀(s:Shared) (u:Value),BindsTo s fd ⟨[u],[]⟩ [(x,u)])
  (hsp:∀H:Hp,Qmj H->SqL K H a (ns.map V.int)->sp [.ref a] H (fun v _=>v=.bl true) fun _ _ _=>False)
  (hCX:∀H e s',CX [] H s₁ (fun _ _ _=>False) e s'->False):
  codeAny (model P w) callerA (.call (.ref fa) ⟨[.ref a],[]⟩) (fun r s'=>r=.ok (.ret (.bool true))/\OldK s₁.heap s'.heap/\s'.os=s₁.os/\AllBare s'.gens) s₁:=by
 have rv:=JX hi;have lenV:=hi.length
 -- from an abstract heap in which nothing but the script may be tracked
 have core:∀H:Hp,Qmj H->SqL K H a (ns.map V.int)->HOk P w H s₁.heap->(∀b,H b≠none->b=a)->(H a≠none->K.lookup a=none) ->
   codeAny (model P w) callerA (.call (.ref fa) ⟨[.ref a],[]⟩) (fun r s'=>r=.ok (.ret (.bool true))/\OldK s₁.heap s'.heap/\s'.os=s₁.os/\AllBare s'.gens) s₁:=by
  intro H hO hS hok hA hK;have base_of:∀{b:Addr} {o:Obj},s₁.heap.get? b=some o->H b=none->(Qgh s₁.heap H).get? b=some o:=fun e n=>Qgg e n
  have noA:∀{b:Addr} {o:Obj} {es:Array DictEntry} {ep:Nat},s₁.heap.get? b=some o->o.data=.dict es ep->H b=none:=fun {b o es ep} e d=>by
   cases q:H b with
   | none=>rfl
   | some u =>
    have e':b=a:=hA b (by rw [q];simp)
    subst e';rw [ha]at e;cases e;have d':Data.seq vs.toArray _=Data.dict es ep:=d;cases d'
  have nsK:∀{b:Addr} {m:Str->Option Value},s₁.heap.Ns b m->(Qgh s₁.heap H).Ns b m:=fun {b m} ⟨o,es,ep,e,d,r⟩=>⟨o,es,ep,base_of e (noA e d),d,r⟩
  have hKb:K.In (Qgh s₁.heap H):=fun b o e=>base_of (KX b o e) (by
   cases q:H b with
   | none=>rfl
   | some u =>
    have e':b=a:=hA b (by rw [q];simp)
    subst e'
    rw [hK (by rw [q];simp)]at e;cases e)
  have hM:Mod K mg (Qgh s₁.heap H):=⟨hKb,nsK hns,⟨mb,nsK hb,hbb⟩,let ⟨mc,h1,h2⟩:=hlim;⟨mc,nsK h1,h2⟩⟩
  have e0:Env0 P w K mg (Qgh s₁.heap H) callerA [] s₁ H:=⟨rfl,hM,fun b o e=>QiA e,Nat.le_of_eq (Qer _ _),trivial,fun b hb=>absurd (show b∈([]:List Addr)from hb) (by simp),hok,.of_eq hg⟩
  refine codeAny_mono ((F _ hKb (nsK hns)).run callerA [] s₁ H ⟨[.ref a],[]⟩ [.ref a] [.ref a] _ _ hr e0 (hbind s₁ (.ref a)) (.cons rfl .nil) (hsp H hO hS)) fun r s' h=>?_
  cases r with
  | error e=>exact(hCX H e s' h).elim
  | ok fl =>
   cases fl with
   | next=>exact False.elim h
   | brk=>exact False.elim h
   | cont=>exact False.elim h
   | ret u =>
    obtain⟨v,H',os,bare,un,hok',r',q⟩:=h;have q':v=.bl true:=q;subst q';obtain rfl:u=Value.bool true:=r';refine⟨rfl,OldK.of_keep fun b o e=>?_,os,bare⟩
    cases q:H b with
    | none=>exact un.keep b o e q (by intro z;exact absurd (show b∈([]:List Addr)from z) (by simp)) (by simp)
    | some u =>
     rcases hO b with z | ⟨ob,xs,z⟩
     ·rw [q]at z;cases z
     ·have z2:=un.frzs b ob _ z;obtain⟨e1,_⟩:=hok b _ z;obtain⟨e2,_⟩:=hok' b _ z2;rw [e]at e1;cases e1;exact e2
 cases hk:K.lookup a with
 | some o =>
  -- the script is one of the module's own objects
  have e:=KX a o hk;rw [ha]at e;cases e
  refine core (fun _=>none) (fun _=>.inl rfl) (.inr ⟨_,vs.toArray,_,hk,rfl,rfl,rfl,by rw [List.size_toArray,lenV];exact hl,by simpa using rv⟩) (fun b u z=>by have z':(none:Option HO)=some u:=z;cases z') (fun b z=>absurd rfl z) fun z=>absurd rfl z
 | none =>
  refine core (fun b=>if b=a then some (.frz { cls:=.type "list",data:=.seq vs.toArray } (.lst (ns.map V.int)))else none) (fun b=>?_) (.inl (.inr ⟨{ cls:=.type "list",data:=.seq vs.toArray },if_pos rfl⟩)) (fun b u z=>?_) (fun b z=>?_) fun _=>hk
  ·by_cases hb:b=a
   ·exact .inr ⟨_,_,if_pos hb⟩
   ·exact .inl (if_neg hb)
  ·by_cases hb:b=a
   ·have z':=(if_pos hb).symm.trans z;cases z';subst hb
    exact⟨ha,by rw [List.length_map];exact hl,vs,_,rv,ha⟩
   ·have z':=(if_neg hb).symm.trans z;cases z'
  ·by_cases hb:b=a
   ·exact hb
   ·exact absurd (if_neg hb) z
end L2
namespace L2
open PySem PySem.Spec PyProof.Rows
noncomputable abbrev KOf{K:PySem.W.Frag}{h:Heap}(_:K.In h):PySem.W.Frag:=K
theorem walk_of{l:PySem.W.OpenLaw}{n k:Nat}{q:Program}{loose:List Str}{XP:(Str->Option Value)->Heap->Prop}{YP:World->Heap->Prop}{d:DefRec}{K:Params->PySem.W.Frag}{CX:World->CXT}{sp:World->Sp}{x:Str}
  (hn:l.most=some n) (hn2:n<=sizeLine) (hdf:d.params.defaults=[]) (hr:Room k callerA)
  (hY:∀(w:World) (h:Heap),YP w h->(K w.params).In h)
  (F:∀(w:World) (mg:Str->Option Value) (fa:Addr) (h:Heap),(K w.params).In h->h.Ns mainGlobals mg->mg d.name=some (.ref fa) ->
   ∃fd:FuncData,(∀(s:Shared) (u:Value),BindsTo s fd ⟨[u],[]⟩ [(x,u)]) /\
    ∀base:Heap,(K w.params).In base->base.Ns mainGlobals mg->FnOk l.prog w (K w.params) mg base (CX w) k fa fd [x] (sp w))
  (hsp:∀(w:World) (H:Hp) (a:Addr) (ns:List Int),ns.length<=n->Qmj H->SqL (K w.params) H a (ns.map V.int)->sp w [.ref a] H (fun v _=>v=.bl true) fun _ _ _=>False)
  (hCX:∀(w:World) (H:Hp) (s:Shared) (e:Value) (s':Shared),CX w [] H s (fun _ _ _=>False) e s'->False):
  PySem.W.WalkO q loose XP YP l.row.toRowW d [] (fun f vs=>PySem.call f vs):=by
 refine Att.attach_call hn hdf fun w s₀ s₁ mg mb fa o pm cd doc a vs ns G Y ho hd hcd hmg hobj hints hlen hg=>?_;have KX:=hY w _ Y;obtain⟨fd,hb,hF⟩:=F w mg fa _ KX G.T.g hmg;exact Qga KX G.T.g G.T.b G.T.builtins G.T.nolimit hg hobj hints (Nat.le_trans hlen hn2) hr hF hb (fun H hO hS=>hsp w H a ns hlen hO hS) fun H e s'=>hCX w H s₁ e s'
end L2
namespace L2
open PySem PySem.Spec PyProof.Rows
noncomputable def Qm(s:Stmt):Arguments:=match s with
 | .FunctionDef _ a _ _ _ _ _ _ _ _=>a
 | _=>{ posonlyargs:=[],args:=[],vararg:=none,kwonlyargs:=[],kw_defaults:=[],kwarg:=none,defaults:=[] }
noncomputable def Qk(s:Stmt):List Stmt:=match s with
 | .FunctionDef _ _ b _ _ _ _ _ _ _=>b
 | _=>[]
noncomputable def Qb(s:Stmt):Scope:=match s with
 | .FunctionDef _ _ _ _ _ _ sc _ _ _=>sc
 | _=>{ kind:=.function,names:=[],isGenerator:=false,isCoroutine:=false }
noncomputable abbrev CX0:CXT:=fun _ _ _ _ _ _=>False
noncomputable abbrev E0:XK:=fun _ _ _=>False
theorem Qf2{X:Cx}:Qck CX0 X E0:=fun _ _ _ _ _ _ _ h=>h.elim
section
variable {P:Program}{w:World}{K:PySem.W.Frag}{mg:Str->Option Value}{base:Heap}
end
theorem QiW{A:Around}{k:Nat}(hr:Room k A):A.units+1<cLine:=Nat.lt_of_le_of_lt (Nat.add_le_add_left (by decide:1<=64) _) hr.units
section
variable {X:Cx}
end
section
variable {κ:Type}[DecidableEq κ]
end
end L2
namespace Iv
open PySem
noncomputable def Qlm(sep:List Nat):List (List Nat)->List Nat
 | []=>[]
 | [x]=>x
 | x::y::r=>x++sep++Qlm sep (y::r)
noncomputable def Qdo(c:Nat):List Nat->List (List Nat)
 | []=>[[]]
 | a::r=>if a=c then []::Qdo c r else match Qdo c r with
  | []=>[[a]]
  | p::ps=>(a::p)::ps
theorem pickL{β:Type}(l:List β)(a:Nat):∀k:Nat,(List.range k).filterMap (fun m=>l[a+m]?)=(l.drop a).take k
 | 0=>rfl
 | k+1=>by
  rw [List.range_succ,List.filterMap_append,pickL l a k,List.take_add_one,List.getElem?_drop];cases e:l[a+k]?<;>simp [e]
end Iv
namespace L2
open PySem PySem.Spec PyProof.Rows Builtin Builtin.Str
section
variable {X:Cx}
noncomputable def Qh2:V->List V->Hp->VK->Prop:=fun x vs H Q=>∃a k y kvs,x=.ref a/\vs=[kV k,y]/\H a=some (.dK kvs)/\kvs.length<sizeLine/\(∀z,ZQ kvs k=some z->Q z H)/\(ZQ kvs k=none->Q y (upd H a (.dK (kvs++[(k,y)]))))
theorem QdZ:MtR X "dict.setdefault" Qh2:=by
 intro pins s σ H x vs v us Q I rx rv h;obtain⟨a,k,y,kvs,rfl,rfl,hH,hz,q1,q2⟩:=h;cases rx;obtain⟨uk,uy,rfl,rk,ry⟩:=Qcq rv;obtain⟨z,hd,ws,rel,dd⟩:=Qbi I.hok hH
 refine call_meetsIn F.slot_dict_setdefault dd.typeIs F.entry_dict_setdefault (F.args_dict_setdefault_3 _ _ _) (kt_meets_setdefault (Qq X.prog X.w) a (YQ rk) hd uy)
  ⟨ws,dd,by rw [<-rel.length];exact z,fun w' hw=>?_,fun hn h' dd' hs=>?_⟩
 ·have rr:=rel.val k;rw [hw]at rr
  cases e:ZQ kvs k with
  | none=>rw [e]at rr;exact(show False from rr).elim
  | some z=>rw [e]at rr;exact⟨z,H,I.tok _,rr,q1 z e⟩
 ·have e:ZQ kvs k=none:=by
   have rr:=rel.val k;rw [hn]at rr
   cases e:ZQ kvs k with
   | none=>rfl
   | some z=>rw [e]at rr;exact(show False from rr).elim
  have he:∃q,h'.get? a=some q:=let ⟨q,_,_,hq,_⟩:=dd';⟨q,hq⟩;have e2:=QfN y e
  have hl:(ZO kvs k y).length<=sizeLine:=by have:=Q7 kvs k y;omega
  have I2:=YV (t':=s.toks+1) I (by rw [hH];exact True.intro) hs he (Qcd hl hd (rel.put k ry) dd')
  rw [e2]at I2;exact⟨y,_,I2,ry,q2 e⟩
theorem J0(lo hi:Option Int)(n:Nat):strSliceIndices lo hi 1 n=(List.range (HT.sIx n n hi-HT.sIx n 0 lo)).map (HT.sIx n 0 lo + ·):=by
 have cl:∀(v:Option Int) (d:Nat),(match v with | none=>((d:Nat):Int) | some i=>max 0 (min (if i<0 then i+(n:Int)else i) (n:Int)))=((HT.sIx n d v:Nat):Int):=fun v d=>by
  cases v with
  | none=>rfl
  | some i =>
   rw [<-HT.clip_eq i n d];simp only;split<;>omega
 have e1:(match lo with | none=>(0:Int) | some i=>max 0 (min (if i<0 then i+(n:Int)else i) (n:Int)))=((HT.sIx n 0 lo:Nat):Int):=by
  rw [<-cl lo 0];cases lo<;>rfl
 have c2:=cl hi n
 have key:∀L U:Int,L=((HT.sIx n 0 lo:Nat):Int)->U=((HT.sIx n n hi:Nat):Int)->sliceRange L U 1=(List.range (HT.sIx n n hi-HT.sIx n 0 lo)).map (HT.sIx n 0 lo + ·):=by
  rintro L U rfl rfl;unfold sliceRange
  have e2:(if(1:Int) > 0 then(if((HT.sIx n 0 lo:Nat):Int) < ((HT.sIx n n hi:Nat):Int)then(((HT.sIx n n hi:Nat):Int) - ((HT.sIx n 0 lo:Nat):Int)+1-1) / 1 else 0)else(if((HT.sIx n 0 lo:Nat):Int) > ((HT.sIx n n hi:Nat):Int)then(((HT.sIx n 0 lo:Nat):Int) - ((HT.sIx n n hi:Nat):Int) - 1-1) / (-1)else 0)).toNat=HT.sIx n n hi-HT.sIx n 0 lo:=by
   rw [if_pos (by decide)]
   split<;>omega
  simp only [e2];refine List.map_congr_left fun k _=>?_;omega
 exact key _ _ e1 c2
theorem Qds(x:Str)(lo hi:Option Int):(Txt.slice x lo hi).cps.toList=(x.cps.toList.drop (HT.sIx x.length 0 lo)).take (HT.sIx x.length x.length hi-HT.sIx x.length 0 lo):=by
 have hl:x.cps.toList.length=x.length:=by simp [Str.length]
 unfold Txt.slice;split
 ·rename_i h;rw [Bool.and_eq_true]at h;have h:=eq_of_beq h.2;rw [J0,List.length_map,List.length_range]at h;have a:=HT.sIx_le (n:=x.length) (d:=x.length) (Nat.le_refl _) hi
  have e1:HT.sIx x.length 0 lo=0:=by
   by_cases hx:x.length=0
   ·have:=HT.sIx_le (n:=x.length) (d:=0) (Nat.zero_le _) lo;omega
   ·omega
  rw [e1,List.drop_zero,List.take_of_length_le (by omega)]
 ·rw [J0,List.filterMap_map];show(List.filterMap (fun m=>x.cps[HT.sIx x.length 0 lo+m]?) _)=_
  have e:(fun m=>x.cps[HT.sIx x.length 0 lo+m]?)=fun m=>x.cps.toList[HT.sIx x.length 0 lo+m]?:=by
   funext m
   exact Array.getElem?_toList.symm
  rw [e];exact Iv.pickL _ _ _
noncomputable def Qoq:V->Option Int->Option Int->Hp->VK->Prop:=fun x lo hi H Q=>∃y,x=.str y/\y.length<=sizeLine/\Q (.str (Txt.slice y lo hi)) H
theorem Qj4:SlR X Qoq:=by
 intro pins s σ H x v vl vu lo hi sl Q I rx hs pl pu h;obtain⟨y,rfl,hz,q⟩:=h;obtain⟨t,rfl⟩:=rx;refine⟨"str",_,F.slot_str_getitem.lookup,typeIs_str _ _ _,?_⟩
 have fin:∀(l u:Option (Int×Tok)),l.map (·.1)=lo->u.map (·.1)=hi->s.heap.IsSlice sl l u none->wpAny (model X.prog X.w) X.A (getItem (.str y t) (.ref sl)) (EP X pins σ Q) X.xe s:=by
  rintro l u rfl rfl his;refine wpAny_getItem_str_slice (l:=l) (u:=u) (st:=none) his rfl ?_;exact post_val_or_str ⟨Nat.le_trans (Txt.slice_le y _ _) hz,fun t' k=>⟨.str _,H,I.kept (t':=k) fun _ _ e=>e,⟨_,rfl⟩,q⟩⟩
 cases pl with
 | none=>cases pu with
  | none=>exact fin none none rfl rfl hs
  | int j tj=>exact fin none (some (j,tj)) rfl rfl hs
 | int i ti=>cases pu with
  | none=>exact fin (some (i,ti)) none rfl rfl hs
  | int j tj=>exact fin (some (i,ti)) (some (j,tj)) rfl rfl hs
end
end L2
namespace L2
open PySem PySem.Spec PyProof.Rows
section
variable {X:Cx}
theorem QeW (hc : X.calm = true) : CallR X (.builtin "max") (fun xs H Q => ∃ (a : Addr) (ns : List Int), xs = [.ref a] /\ SqL X.K H a (ns.map V.int) /\ 0 < ns.length /\ ∀ m, m ∈ ns -> (∀ b ∈ ns, b <= m) -> Q (.int m) H) := by
 intro pins s σ H xs us Q I r h;obtain⟨a,ns,rfl,hq,hz0,q⟩:=h;obtain⟨u,rfl,rx⟩:=QaN r;cases rx;obtain⟨its,rr,pl,hz⟩:=I.list hq;have hl:=pl.isList;have hi:=QcH rr;obtain⟨xs,e⟩:=hi.allInts.items
 have hns:ns=xs.toList.map (·.1):=by
  rw [<-hi.numsOf,<-nums_intItems,<-e]
 have hsz:0<xs.size:=by
  have h3:=hz0;rw [hns,List.length_map,Array.length_toList]at h3;exact h3
 rw [e]at hl;refine max_intList (I.ok.hd hc) hl hsz fun v h' tk hv hk=>?_;obtain⟨t,rfl⟩:=intItems_at hv;obtain⟨h1,h2⟩:=argBest_gt (numAt xs) (xs.size-1);refine⟨.int _,H,I.kept hk,⟨_,rfl⟩,q _ ?_ fun b hb=>?_⟩
 ·rw [hns,numAt_eq];exact getD_mem (by rw [List.length_map,Array.length_toList];omega)
 ·rw [hns]at hb;obtain⟨j,hj,rfl⟩:=mem_getD hb;rw [List.length_map,Array.length_toList]at hj
  rw [<-numAt_eq];exact h2 j (by omega)
end
end L2
namespace L2
open PySem PySem.Spec PySem.W PyProof.Rows
noncomputable def QgR{α:Type}(lt:Nat->Nat->Bool):KasT α->α
 | .ret a=>a
 | .ask i j k=>QgR lt (k (lt i j))
noncomputable def InR{α:Type}(n:Nat)(P:α->Prop):KasT α->Prop
 | .ret a=>P a
 | .ask i j k=>i<n/\j<n/\∀b,InR n P (k b)
theorem InR.bind{α β:Type}{n:Nat}{P:α->Prop}{R:β->Prop}{f:α->KasT β}:∀{t:KasT α},InR n P t->(∀a,P a->InR n R (f a))->InR n R (t.bind f)
 | .ret a,h,hf=>hf a h
 | .ask i j k,h,hf=>⟨h.1,h.2.1,fun b=>InR.bind (h.2.2 b) hf⟩
theorem InR.run{α:Type}{n:Nat}{P:α->Prop}{lt:Nat->Nat->Bool}:∀{t:KasT α},InR n P t->P (QgR lt t)
 | .ret a,h=>h
 | .ask i j k,h=>show P (QgR lt (k (lt i j)))from InR.run (t:=k (lt i j)) (h.2.2 (lt i j))
theorem InR.wp{α:Type}{n:Nat}{P:α->Prop}{lt:Nat->Nat->Bool}{cmp:Nat->Nat->(Bool->Shared->Prop)->Shared->Prop}{s:Shared}{Q:α->Shared->Prop}(hc:∀i j C,i<n->j<n->C (lt i j) s->cmp i j C s):
  ∀{t:KasT α},InR n P t->Q (QgR lt t) s->t.kasWp cmp Q s
 | .ret a,h,q=>q
 | .ask i j k,h,q=>hc i j _ h.1 h.2.1 (InR.wp hc (t:=k (lt i j)) (h.2.2 (lt i j)) q)
noncomputable def Bd(n:Nat)(p:Array Nat):Prop:=0<n/\p.Perm (List.toArray (List.range n))
theorem Bd.get{n:Nat}{p:Array Nat}(h:Bd n p)(i:Nat):p.getD i 0<n:=by
 by_cases hi:i<p.size
 ·have e:p.getD i 0=p[i]:=by simp [Array.getD,hi]
  rw [e];have:=h.2.mem_iff.mp (Array.getElem_mem hi);simpa using this
 ·have e:p.getD i 0=0:=by simp [Array.getD,hi]
  rw [e];exact h.1
theorem Bd.perm{n:Nat}{p q:Array Nat}(h:Bd n p)(e:q.Perm p):Bd n q:=⟨h.1,e.trans h.2⟩
theorem Bd.rev{n i j:Nat}{p:Array Nat}(h:Bd n p):Bd n (kas_rev p i j):=h.perm (mirror_perm _ _ _ _)
theorem Bd.bub{n i j:Nat}{p:Array Nat}(h:Bd n p):Bd n (bubble p i j):=h.perm (bubble_perm _ _ _)
theorem Qh0{n:Nat}{p:Array Nat}(h:Bd n p):∀f i,InR n (fun _=>True) (kas_asc p f i)
 | 0,_=>trivial
 | f+1,i=>⟨h.get _,h.get _,fun b=>by
  cases b
  ·exact Qh0 h f (i+1)
  ·exact trivial⟩
theorem QbJ{n:Nat}:∀f (p:Array Nat) i q,Bd n p->InR n (fun r=>Bd n r.1) (kas_desc f p i q)
 | 0,p,i,q,h=>h
 | f+1,p,i,q,h=>⟨h.get _,h.get _,fun b=>by
  cases b
  ·refine⟨h.get _,h.get _,fun b=>?_⟩;cases b
   ·exact QbJ f p _ _ h
   ·exact h
  ·show InR n _ (if q>0 then _ else _);split
   ·exact QbJ f _ _ _ h.rev
   ·exact QbJ f _ _ _ h⟩
theorem Qdz{n m:Nat}{p:Array Nat}{k:Nat}(h:Bd n p):InR n (fun r=>Bd n r.2) (kas_tail3 k m p):=(Qh0 h.rev _ _).bind fun a _=>h.rev
theorem Je{n m k:Nat}{p:Array Nat}(h:Bd n p):InR n (fun r=>Bd n r.2) (kas_descPart k m p):=by
 refine(QbJ _ _ _ _ h).bind fun r hr=>?_;split
 ·exact Qdz hr.rev
 ·exact Qdz hr
theorem QhZ{n m:Nat}{p:Array Nat}(h:Bd n p):InR n (fun r=>Bd n r.2) (kas_count m p):=by
 refine(Qh0 h _ _).bind fun k _=>?_;split
 ·exact h
 ·split
  ·refine⟨h.get _,h.get _,fun b=>?_⟩;cases b
   ·exact Je h.rev
   ·exact h
  ·exact Je h
theorem QaW{n:Nat}{p:Array Nat}{k:Nat}(h:Bd n p):∀f l r,InR n (fun _=>True) (kas_place p k f l r)
 | 0,_,_=>trivial
 | f+1,l,r=>by
  unfold kas_place;split
  ·exact trivial
  ·refine⟨h.get _,h.get _,fun b=>?_⟩;cases b
   ·exact QaW h f _ _
   ·exact QaW h f _ _
theorem Qks{n:Nat}:∀f (p:Array Nat) k,Bd n p->InR n (Bd n) (kas_bin f p k)
 | 0,p,k,h=>h
 | f+1,p,k,h=>(QaW h _ _ _).bind fun l _=>Qks f _ _ h.bub
theorem QgS{n:Nat}(hn:0<n):InR n (Bd n) (kas_sort n):=by
 have h0:Bd n (List.toArray (List.range n)):=⟨hn,Array.Perm.refl _⟩;refine(QhZ h0).bind fun r hr=>?_;split
 ·exact Qks _ _ _ hr
 ·exact hr
noncomputable def Qg6:List Int->List Int->Bool
 | [],[]=>false
 | [],_::_=>true
 | _::_,[]=>false
 | x::xs,y::ys=>if x=y then Qg6 xs ys else decide (x<y)
noncomputable def ltK(ks:List (List Int))(i j:Nat):Bool:=Qg6 (ks.getD i []) (ks.getD j [])
noncomputable def permK(ks:List (List Int))(n:Nat):List Nat:=if n<2 then List.range n else(QgR (ltK ks) (kas_sort n)).toList
section
variable {prog:Program}{w:World}{A:Around}{E:Value->Shared->Prop}{s:Shared}
theorem QlW(κ:SortKind)(z:Array Keyed):arrOf (SortSt.mk' κ z #[] 7 none)=z:=rfl
theorem Qdq(vs:List Value)(h:vs.length<2):(arrOf (SortSt.mk' general' (vs.toArray.zip vs.toArray) #[] 7 none)).map (·.2)=List.toArray ((List.range vs.length).map fun i=>vs.getD i .none):=by
 rw [QlW]
 match vs,h with
 | [],_=>simp
 | [v],_=>simp [List.range,List.range.loop]
 | _::_::_,h=>simp at h;omega
theorem Qcv{l:Addr}{vs:List Value}{κ:SortKind}{ks:List (List Int)}{Q:Value->Shared->Prop}(hl:s.heap.IsList l vs.toArray)(h64:vs.length<64)
  (hk:2<=vs.length->∀h' A' (Q':SortKind->Shared->Prop),(∀b o,s.heap.get? b=some o->h'.get? b=some o)->Q' κ { s with heap:=h' }->wpAny (model prog w) A' (keyKind' vs.toArray) Q' (fun _ _=>False) { s with heap:=h' })
  (hlt:2<=vs.length->∀h' A' (Q':Bool->Shared->Prop) i j,(∀b o,s.heap.get? b=some o->h'.get? b=some o)->i<vs.length->j<vs.length->Q' (ltK ks i j) { s with heap:=h' } ->
   wpAny (model prog w) A' (keyLt' κ (vs.getD i .none) (vs.getD j .none)) Q' (fun _ _=>False) { s with heap:=h' })
  (hQ:∀h' c D,s.heap.objs.size<=D->(∀b o,s.heap.get? b=some o->h'.get? b=some o)->h'.get? D=some (seqObj "list" (List.toArray ((permK ks vs.length).map fun i=>vs.getD i .none)) c)->Q (.ref D) { s with heap:=h' }):
  wpAny (model prog w) A (call (.builtin "sorted") [.ref l]) Q E s:=by
 refine Calls.call_function_entry kind_sorted plain_sorted entry_sorted (args_sorted1 _) ?_;unfold Builtin.«sorted»;refine wpAny_bind (m:=checkCount "sorted" 1 1 _) (wpAny_pure ?_)
 refine wpAny_bind (collect_list hl ?_ (by rw [sizeLine_eq];omega))
 refine wpAny_bind (wpAny_newList ?_ (by rw [sizeLine_eq];omega))
 have hsz:((s.heap.push (seqObj "list" #[] 0)).update s.heap.objs.size (Obj.mapSeq (·++vs.toArray))).objs.size=s.heap.objs.size+1:=by
  rw [Heap.size_update,size_push']
 generalize hh1:((s.heap.push (seqObj "list" #[] 0)).update s.heap.objs.size (Obj.mapSeq (·++vs.toArray)))=h1 at hsz
 have k1:∀b o,s.heap.get? b=some o->h1.get? b=some o:=fun b o q=>by
  have hlt:b<s.heap.objs.size:=Heap.lt_size q;rw [<-hh1,Heap.get?_update_ne _ _ _ _ (Nat.ne_of_lt hlt),Heap.get?_push_ne _ _ _ (Nat.ne_of_lt hlt)];exact q
 have hoL:(h1.push (seqObj "list" vs.toArray 0)).get? h1.objs.size=some (seqObj "list" vs.toArray 0):=Heap.get?_push_size _ rfl;show wpAny _ _ _ _ _ { s with heap:=h1.push (seqObj "list" vs.toArray 0) };generalize ha:h1.objs.size=a at hoL hsz;refine wpAny_bind (wpAny_holding (wpAny_call_entry slot_list_sort ⟨_,hoL,rfl⟩ entry_list_sort ?_ (args_list_sort _)));have k2:∀b o,s.heap.get? b=some o->(h1.push (seqObj "list" vs.toArray 0)).get? b=some o:=fun b o q=>Heap.get?_push_of_some _ (k1 b o q);generalize (h1.push (seqObj "list" vs.toArray 0))=h2 at hoL k2;rw [list_sort_plain]
 have hlen:vs.toArray.size=vs.length:=by simp
 refine wpAny_bind (listItems_at (s:={ s with heap:=h2 }) hoL rfl ?_)
 refine wpAny_bind (listUpdate_at (s:={ s with heap:=h2 }) hoL rfl ?_ (by rw [hlen,sizeLine_eq];omega) (Nat.zero_le _))
 obtain⟨e1,ho1⟩:∃e1,(h2.update a (Obj.mapSeq fun _=>(#[]:Array Value))).get? a=some (seqObj "list" #[] e1):=⟨_,get?_update_seq hoL (fun _=>#[])⟩
 have hna:∀b o,s.heap.get? b=some o->b≠a:=fun b o q=>Nat.ne_of_lt (Nat.lt_of_lt_of_le (Heap.lt_size q) (by rw [hsz];exact Nat.le_succ _))
 have k3:∀b o,s.heap.get? b=some o->(h2.update a (Obj.mapSeq fun _=>(#[]:Array Value))).get? b=some o:=fun b o q=>(Heap.get?_update_other _ _ (Ne.symm (hna b o q))).trans (k2 b o q);generalize (h2.update a (Obj.mapSeq fun _=>(#[]:Array Value)))=h3 at ho1 k3;refine wpAny_bind (seqEpoch_at (s:={ s with heap:=h3 }) ho1 rfl ?_)
 refine wpAny_bind (wpAny_newTuple ?_ (by show vs.length<=_;rw [sizeLine_eq];omega))
 refine wpAny_bind (wpAny_newList ?_ (Nat.zero_le _));refine wpAny_holding ?_;show wpAny (model prog w) _ _ _ _ { s with heap:=(h3.push (seqObj "tuple" vs.toArray 0)).push (seqObj "list" #[] 0) };have ho4:((h3.push (seqObj "tuple" vs.toArray 0)).push (seqObj "list" #[] 0)).get? a=some (seqObj "list" #[] e1):=Heap.get?_push_of_some _ (Heap.get?_push_of_some _ ho1);have k4:∀b o,s.heap.get? b=some o->((h3.push (seqObj "tuple" vs.toArray 0)).push (seqObj "list" #[] 0)).get? b=some o:=fun b o q=>Heap.get?_push_of_some _ (Heap.get?_push_of_some _ (k3 b o q));generalize ((h3.push (seqObj "tuple" vs.toArray 0)).push (seqObj "list" #[] 0))=h4 at ho4 k4;dsimp only
 have fin:∀out:Array Value,out=List.toArray ((permK ks vs.length).map fun i=>vs.getD i .none)->Q (.ref a) { s with heap:=h4.update a (Obj.mapSeq fun _=>out) }:=fun out eo=>by
  obtain⟨c,hc⟩:∃c,(h4.update a (Obj.mapSeq fun _=>out)).get? a=some (seqObj "list" out c):=⟨_,get?_update_seq ho4 (fun _=>out)⟩;rw [eo]at hc ⊢
  exact hQ _ c a (by rw [hsz];exact Nat.le_succ _) (fun b o q=>(Heap.get?_update_other _ _ (Ne.symm (hna b o q))).trans (k4 b o q)) hc
 by_cases h2:vs.toArray.size<2
 ·rw [if_pos h2,if_pos h2];refine wpAny_bind (wpAny_pure ?_);rw [StateT.run_pure];refine wpAny_bind (wpAny_pure ?_);dsimp only;refine wpAny_bind (seqEpoch_at (s:={ s with heap:=h4 }) ho4 rfl ?_)
  refine wpAny_bind (listUpdate_at (s:={ s with heap:=h4 }) ho4 rfl ?_ (Nat.zero_le _) (hsz2:=by rw [Array.size_map];show(pairsOf vs).size<=_;rw [pairsOf_size,sizeLine_eq];omega))
  simp only [bne_self_eq_false,Bool.false_eq_true,if_false];refine wpAny_pure ⟨_,rfl,wpAny_pure ⟨_,rfl,fin ((arrOf (SortSt.mk' general' (vs.toArray.zip vs.toArray) #[] 7 none)).map (·.2)) ?_⟩⟩;rw [hlen]at h2;unfold permK;rw [if_pos h2];exact Qdq vs h2
 ·rw [if_neg h2,if_neg h2];rw [hlen]at h2
  have h2':2<=vs.length:=by omega
  refine wpAny_bind (wpAny_mono (hk h2' h4 _ (fun κ' s'=>κ'=κ/\s'={ s with heap:=h4 }) k4 ⟨rfl,rfl⟩) (fun κ' s' hs=>?_) fun _ _ x=>x.elim);obtain⟨rfl,rfl⟩:=hs
  have R:=QgS (n:=vs.length) (by omega)
  refine wpAny_bind (wpAny_mono (kat_run (Q:=fun st' s'=>s'={ s with heap:=h4 }/\arrOf st'=(QgR (ltK ks) (kas_sort vs.length)).map (kas_item (vs.toArray.zip vs.toArray))/\failedOf st'=none/\(arrOf st').size=vs.length) (G:=fun p s'=>p=QgR (ltK ks) (kas_sort vs.length)/\s'={ s with heap:=h4 })
   rfl h2' h64 (fun p' st' s' a1 a2 a3 a4=>⟨a4.2,a4.1▸a2,a3,by rw [a2,Array.size_map];exact a1⟩) (InR.wp (fun i j C hi hj c=>hlt h2' h4 _ C i j k4 hi hj c) R ⟨rfl,rfl⟩)) ?_ fun _ _ e=>e)
  rintro⟨⟨⟩,st'⟩ s' ⟨rfl,har,hf,hsize⟩;dsimp only;have hout:=kat_snds rfl har;rw [hout];refine wpAny_bind (seqEpoch_at (s:={ s with heap:=h4 }) ho4 rfl ?_)
  have hz:(List.toArray ((QgR (ltK ks) (kas_sort vs.length)).toList.map fun i=>vs.getD i Value.none)).size<=sizeLine+1:=by
   have e:(arrOf st').size=vs.length:=hsize;have e2:((arrOf st').map (·.2)).size=vs.length:=(Array.size_map ..).trans e;rw [hout]at e2;rw [e2,sizeLine_eq];omega
  refine wpAny_bind (listUpdate_at (s:={ s with heap:=h4 }) ho4 rfl ?_ (Nat.zero_le _) hz);rw [hf];simp only [bne_self_eq_false,Bool.false_eq_true,if_false];refine wpAny_pure ⟨_,rfl,wpAny_pure ⟨_,rfl,fin _ ?_⟩⟩;unfold permK;rw [if_neg h2]
theorem permK_perm(ks:List (List Int))(n:Nat):(permK ks n).Perm (List.range n):=by
 unfold permK;split
 ·exact List.Perm.refl _
 ·exact((QgS (n:=n) (by omega)).run (lt:=ltK ks)).2.toList
theorem Qae(ks:List (List Int))(n:Nat):(permK ks n).length=n:=by rw [(permK_perm ks n).length_eq,List.length_range]
theorem Qec{b:Bool}{Q:Bool->Shared->Prop}:∀{k l:List Int} {xs ys:List Value} {fin:Bool} {i:Nat},Vals (k.map V.int) xs->Vals (l.map V.int) ys->fin=decide (k.length<l.length)->Q (Qg6 k l) s->KatLex prog w A true fin Q (xs.zip ys) i s
 | [],l,xs,ys,fin,i,h1,h2,hf,q=>by
  cases h1;rw [List.zip_nil_left];refine kat_nil ?_
  cases l with
  | nil=>rw [hf];exact q
  | cons _ _=>rw [hf];simpa [Qg6]using q
 | x::k,[],xs,ys,fin,i,h1,h2,hf,q=>by
  cases h2;rw [List.zip_nil_right];refine kat_nil ?_;rw [hf];simpa [Qg6]using q
 | x::k,y::l,xs,ys,fin,i,h1,h2,hf,q=>by
  cases h1 with
  | cons r1 t1 =>
   cases h2 with
   | cons r2 t2 =>
    obtain⟨a1,rfl⟩:=r1;obtain⟨a2,rfl⟩:=r2;rw [List.zip_cons_cons];refine kat_cons (wpAny_eqBool_int ?_);by_cases e:x=y
    ·subst e
     rw [show(x==x)=true by simp]
     refine kat_yes (Qec (b:=b) t1 t2 (by rw [hf];simp) ?_)
     simpa [Qg6]using q
    ·rw [show(x==y)=false by simp [e]]
     have q':Q (decide (x<y)) s:=by simpa [Qg6,e]using q
     refine kat_no ?_
     cases i with
     | zero=>exact oneLt_int q'
     | succ i=>exact kat_one _ _ (PyProof.Rows.lt_int q')
theorem Qdc {h : Heap} : ∀ {vs : List Value}, (∀ v ∈ vs, ∃ a o xs n, ∃ (i : Int) (t : Tok), v = Value.ref a /\ h.get? a = some o /\ o.cls = .type "tuple" /\ o.data = .seq xs n /\ xs[0]? = some (Value.int i t)) -> ∃ fs, KatTups h vs fs /\ fs.length = vs.length /\ ∀ f ∈ fs, ∃ i t, f = Value.int i t
 | [],_=>⟨[],.nil,rfl,by simp⟩
 | v::vs,H=>by
  obtain⟨fs,t,l,f⟩:=Qdc fun z hz=>H z (List.mem_cons_of_mem _ hz);obtain⟨a,o,xs,n,i,tk,rfl,h1,h2,h3,h4⟩:=H v (List.mem_cons_self ..)
  refine⟨Value.int i tk::fs,KatTups.cons h1 h2 h3 h4 t,by simp [l],fun z hz=>?_⟩
  rcases List.mem_cons.mp hz with rfl | hz
  ·exact⟨_,_,rfl⟩
  ·exact f z hz
end
noncomputable def QlZ(K:PySem.W.Frag)(H:Hp)(ys:List V)(ks:List (List Int)):Prop:=ys.length=ks.length/\∀(i:Nat) y k,ys[i]?=some y->ks[i]?=some k->k≠[]/\∃b,y=.ref b/\SqT K H b (k.map V.int)
noncomputable def QaQ(ks:List (List Int))(ys:List V):List V:=(permK ks ys.length).map fun i=>ys.getD i .non
section
variable {X:Cx}
theorem JW{ys:List V}{its:List Value}(r:Vals ys its):∀(p:List Nat),Vals (p.map fun i=>ys.getD i .non) (p.map fun i=>its.getD i .none)
 | []=>.nil
 | i::p=>.cons (by
   show RelV (ys.getD i .non) (its.getD i .none)
   cases e:ys[i]? with
   | none =>
    have:its[i]?=none:=by
     rw [List.getElem?_eq_none_iff]at e ⊢;rw [<-r.length];exact e
    simp [List.getD,e,this,RelV]
   | some v =>
    obtain⟨u,hu,ru⟩:=r.get e
    simpa [List.getD,e,hu]using ru) (JW r p)
theorem QcO : CallR X (.builtin "sorted") (fun xs H Q => ∃ (a : Addr) (ys : List V) (ks : List (List Int)), xs = [.ref a] /\ SqL X.K H a ys /\ ys.length < 64 /\ (2 <= ys.length -> QlZ X.K H ys ks) /\ ∀ p, H p = none -> Q (.ref p) (upd H p (.lst (QaQ ks ys)))) := by
 intro pins s σ H xs us Q I r h;obtain⟨a,ys,ks,rfl,hq,h64,ht,q⟩:=h;obtain⟨u,rfl,rx⟩:=QaN r;cases rx;obtain⟨its,rr,pl,hz⟩:=I.list hq;have hlen:=rr.length
 have item : 2 <= its.length -> ∀ i, i < its.length -> ∃ (b : Addr) (o : Obj) (xs : List Value) (n : Nat) (k : List Int), its.getD i .none = Value.ref b /\ s.heap.get? b = some o /\ o.cls = .type "tuple" /\ o.data = .seq xs.toArray n /\ ks.getD i [] = k /\ k ≠ [] /\ Vals (k.map V.int) xs := by
  intro h2 i hi
  obtain⟨tl,tt⟩:=ht (by omega)
  have hi':i<ys.length:=by omega
  have hk:i<ks.length:=by omega
  obtain⟨kn,b,ey,sq⟩:=tt i ys[i] ks[i] (List.getElem?_eq_getElem hi') (List.getElem?_eq_getElem hk);obtain⟨v,hv,rv⟩:=rr.get (List.getElem?_eq_getElem hi');rw [ey]at rv;cases rv;obtain⟨xs,rx,⟨o,e1,e2,n,e3⟩,_⟩:=I.tuple sq
  exact⟨b,o,xs,n,ks[i],by simp [List.getD,hv],e1,e2,e3,by simp [List.getD,hk],kn,rx⟩
 refine Qcv (κ:=tuples' true) (ks:=ks) pl.isList (by omega) (fun h2 h' A' Q' kp q'=>?_) (fun h2 h' A' Q' i j kp hi hj q'=>?_) fun h' c D hD kp hh=>?_
 ·obtain⟨fs,t,l,f⟩:=Qdc (h:=h') (vs:=its) fun v hv=>by
   obtain⟨i,hi,rfl⟩:=List.getElem_of_mem hv;obtain⟨b,o,xs,n,k,e0,e1,e2,e3,e4,kn,rx⟩:=item h2 i hi
   have e0':its[i]=Value.ref b:=by simpa [List.getD,hi]using e0
   cases k with
   | nil=>exact absurd rfl kn
   | cons x k =>
    cases rx with
    | cons r1 t1 =>
     obtain⟨tk,rfl⟩:=r1
     exact⟨b,o,_,n,x,tk,e0',kp b o e1,e2,e3,by simp⟩
  refine kat_kind (T:=.type "int") t (by omega) (fun v hv=>?_) (by decide) ?_
  ·obtain⟨i,t,rfl⟩:=f v hv;exact Looks.of_pure rfl
  ·exact q'
 ·obtain⟨b,o,xs,n,k,e0,e1,e2,e3,e4,kn,rx⟩:=item h2 i hi;obtain⟨b2,o2,xs2,n2,k2,f0,f1,f2,f3,f4,kn2,rx2⟩:=item h2 j hj;rw [e0,f0];refine kat_lt (kp b o e1) e3 (kp b2 o2 f1) f3 ?_
  have q2:Q' (Qg6 k k2) { s with heap:=h' }:=by
   have:=q';unfold ltK at this;rw [e4,f4]at this;exact this
  have l1:=rx.length;have l2:=rx2.length;simp only [List.length_map]at l1 l2
  exact Qec (b:=true) rx rx2 (by simp [<-l1,<-l2]) q2
 ·refine⟨.ref D,_,I.laid (t':=s.toks) (o:=.lst (QaQ ks ys)) kp hD ?_,rfl,q D (I.hok.fresh hD)⟩
  refine⟨by unfold QaQ;rw [List.length_map,Qae];exact hz,_,c,?_,hh⟩
  unfold QaQ;rw [hlen];exact JW rr _
end
end L2
namespace L2
open PySem PySem.Spec PySem.W PyProof.Rows
theorem QV:entryFor table "dict.update.loop"=some Builtin.«dict.update.loop»:=entryFor_of_tree (by kernel_rfl)
theorem Qy:plainId "dict.update.loop"=true:=by decide +kernel
theorem Y4:typeLookup (.type "list") "keys"=pure none:=am_miss_of_fast (by kernel_rfl)
section
variable {prog:Program}{w:World}{A:Around}{s:Shared}{R:Result->Shared->Prop}{E:Value->Shared->Prop}
theorem Z2{a:Addr}{o:Obj}{xs:Array Value}{k:Nat}{Q:Option Value->Shared->Prop}
  (hx:s.heap.get? a=some o) (hc:o.cls=.type "list") (hdat:o.data=.seq xs k) (hd:o.dict=none) (hA:A.handled=none)
  (h:∀h' tk,(∀b o,s.heap.get? b=some o->h'.get? b=some o)->Q none { s with heap:=h',toks:=tk }):
  wpAny (model prog w) A (getAttr? (.ref a) "keys") Q E s:=by
 obtain⟨c,dct,dat,sl⟩:=o;simp only at hc hdat hd;subst hc hdat hd;obtain⟨hp,g,d,tk,os⟩:=s;have hT:∀tk',(⟨hp,g,d,tk',os⟩:Shared).TypeIs (.ref a) "list":=fun _=>⟨_,hx,rfl⟩;have f1:=sub_AttributeError;have f3:=F.slot_list_getattribute.lookup;have f4:=F.slot_list_getattribute.bind (.ref a);have f5:=am_list_getattr_none;unfold getAttr? getAttrBy? getAttrBy
 repeat (any_goals (first | assumption | exact hT _ | ((with_reducible show wpAny _ _ (call (Value.builtin "list.__getattribute__") _ _) _ _ _);refine call_meets F.slot_list_getattribute (hT _) am_entry_list_getattribute (F.args_list_getattribute_2 _ _) (meets_getattribute_miss_list a xs k sl "keys" _ Y4 (by decide) (by size_fits)) ⟨hx,hA,fun h' tk' e hx'=>?_⟩) | wp_step))
 obtain⟨t',u',he⟩:=hx'.there;show wpAny _ _ (getattributeRaised _ _ _ _ _ _ _) _ _ _;unfold getattributeRaised
 repeat (any_goals (first | assumption | wp_step))
 exact h _ _ hx'.keeps
theorem QcF{D:Nat->Heap->Prop}{d it l:Addr}{items:Array Value}(n1:d≠it)(n2:d≠l)(n3:it≠l)(hh:A.in1.handled=none)
  (keep:∀i h h',D i h->(∀b o,b≠it->h.get? b=some o->h'.get? b=some o)->D i h')
  (step : ∀ (i : Nat) u (s : Shared), items[i]? = some u -> D i s.heap -> ∃ t key v o n, u = .ref t /\ s.heap.get? t = some o /\ o.cls = .type "tuple" /\ o.data = .seq #[key, v] n /\
   ∀(E:Value->Shared->Prop) (Q:Unit->Shared->Prop),(∀h' tk,D (i+1) h'->Heap.SameBut d s.heap h'->Q () { s with heap:=h',toks:=tk })->wpAny (model prog w) A.in1 (dictSet d key v) Q E s):
  ∀(m i:Nat) (s:Shared),i+m=items.size->s.heap.IsListIter it l i->s.heap.IsList l items->D i s.heap ->
  (∀s',D items.size s'.heap->(∀b o,b≠d->b≠it->s.heap.get? b=some o->s'.heap.get? b=some o)->(∃h' c,s'={ s with heap:=h',toks:=c })->R (.ok (.ret .none)) s') ->
  codeAny (model prog w) A (.builtin "dict.update.loop" ⟨[.ref d,.ref it,rawInt i,.none],[]⟩) R s:=by
 intro m
 induction m with
 | zero =>
  intro i s e hi hl hd hR;refine codeAny_builtin QV ?_;rw [Around.under_plainId Qy _];show wpAny _ A.in1 (pyNext (.ref it) >>= _) _ _ s
  refine wpAny_bind (wpAny_pyNext_list_end hh hi hl (by simp;omega) fun h' hs'=>?_)
  show wpAny _ A.in1 (Builtin.Dict.addKeywords d [] >>= _) _ _ _;refine wpAny_bind (wpAny_pure (wpAny_pure (hR _ ?_ (fun b o b1 b2 e'=>?_) ⟨_,_,rfl⟩)))
  ·have:i=items.size:=by omega
   subst this;exact keep _ _ _ hd fun b o nb e=>hs' b o nb e
  ·exact hs' b o b2 e'
 | succ m ih =>
  intro i s e hi hl hd hR
  have lt:i<items.size:=by omega
  obtain⟨u,eu⟩:∃u,items[i]?=some u:=⟨items[i],by simp [lt]⟩
  refine codeAny_builtin QV ?_;rw [Around.under_plainId Qy _];show wpAny _ A.in1 (pyNext (.ref it) >>= _) _ _ s;refine wpAny_bind (wpAny_pyNext_list_item hi hl eu fun h1 hi1 hs1=>?_);have g1:∀b o,b≠it->s.heap.get? b=some o->h1.get? b=some o:=fun b o nb e=>(hs1.2 b nb).trans e;have hd1:D i h1:=keep _ _ _ hd g1;obtain⟨t,key,v,o,n,rfl,ho1,hc,hdat,st⟩:=step i u { s with heap:=h1 } eu hd1;refine wpAny_bind (wpAny_holding ?_);refine wpAny_bind (wpAny_tryCatch ?_);unfold Builtin.Dict.pairItems;refine wpAny_bind (wpAny_typeOf_ref ho1 ?_);rw [hc]
  show wpAny _ _ (do return ((<-seqItems? (.ref t)).getD #[]).toList) _ _ _
  refine wpAny_bind (wpAny_seqItems ho1 hdat (wpAny_pure ?_));show wpAny _ _ (holding [key,v] (dictSet d key v)) _ _ _;refine wpAny_holding (st _ _ fun h2 tk hd2 hs2=>?_);have g2:∀b o,b≠d->h1.get? b=some o->h2.get? b=some o:=fun b o nb e=>(hs2.2 b nb).trans e;refine wpAny_pure ⟨plainId_quiet Qy _,?_⟩
  refine ih (i+1) _ (by omega) ?_ ?_ hd2 fun s' hd' hk' hs'=>?_
  ·obtain⟨oi,hoi,rest⟩:=hi1;exact⟨oi,g2 it oi (Ne.symm n1) hoi,rest⟩
  ·obtain⟨ol,hol,rest⟩:=hl;exact⟨ol,g2 l ol (Ne.symm n2) (g1 l ol (Ne.symm n3) hol),rest⟩
  ·exact hR s' hd' (fun b o b1 b2 e'=>hk' b o b1 b2 (g2 b o b1 (g1 b o b2 e'))) (by obtain⟨h3,c3,e3⟩:=hs';exact⟨h3,c3,e3⟩)
theorem Ja{D:Nat->Heap->Prop}{l:Addr}{ol:Obj}{items:Array Value}{nl:Nat}{Q:Value->Shared->Prop}(hA:A.handled=none)
  (hl:s.heap.get? l=some ol) (hc:ol.cls=.type "list") (hdat:ol.data=.seq items nl) (hdd:ol.dict=none)
  (start:∀h',(∀b o,s.heap.get? b=some o->h'.get? b=some o)->h'.get? s.heap.objs.size=some { cls:=.type "dict",data:=.dict #[] }->D 0 h')
  (keep:∀i h h' it,s.heap.objs.size<it->D i h->(∀b o,b≠it->h.get? b=some o->h'.get? b=some o)->D i h')
  (step : ∀ (i : Nat) u (s' : Shared), items[i]? = some u -> D i s'.heap -> ∃ t key v o n, u = .ref t /\ s'.heap.get? t = some o /\ o.cls = .type "tuple" /\ o.data = .seq #[key, v] n /\
   ∀(E:Value->Shared->Prop) (Q:Unit->Shared->Prop),(∀h' tk,D (i+1) h'->Heap.SameBut s.heap.objs.size s'.heap h'->Q () { s' with heap:=h',toks:=tk })->wpAny (model prog w) A.in1.in1 (dictSet s.heap.objs.size key v) Q E s')
  (h:∀h' tk,D items.size h'->(∀b o,s.heap.get? b=some o->h'.get? b=some o)->Q (.ref s.heap.objs.size) { s with heap:=h',toks:=tk }):
  wpAny (model prog w) A (call (.type "dict") [.ref l]) Q E s:=by
 have hlt:l<s.heap.objs.size:=Heap.lt_size hl;refine callType_codes (Q₁ := fun obj s₁ => obj = .ref s.heap.objs.size /\ s₁ = { s with heap := s.heap.push { cls := .type "dict", data := .dict #[] } }) F.kt_called_dict (F.kt_typeCall_dict_1 _) F.entry_dict_init (kt_code_dict_new _ ⟨rfl, rfl⟩) ?_;rintro obj s₁ ⟨rfl,rfl⟩;have hnew:(s.heap.push { cls:=.type "dict",data:=.dict #[] }).get? s.heap.objs.size=some { cls:=.type "dict",data:=.dict #[] }:=Heap.get?_push_size _ rfl;have hT:Shared.TypeIs { s with heap:=s.heap.push { cls:=.type "dict",data:=.dict #[] } } (.ref s.heap.objs.size) "dict":=⟨_,hnew,rfl⟩;refine⟨hT,F.args_dict_init_2 _ _,?_⟩;unfold Builtin.«dict.__init__»;refine wpAny_bind ?_;unfold Builtin.Dict.selfAndRest;refine wpAny_bind (wpAny_notOrdered_dict hT ?_);show wpAny _ _ (pure (s.heap.objs.size,[Value.ref l])) _ _ _;refine wpAny_pure ?_;show wpAny _ _ (Builtin.Dict.updateFrom "dict.__init__" s.heap.objs.size (.ref l) [] .none) _ _ _;unfold Builtin.Dict.updateFrom;have hl1:(s.heap.push { cls:=.type "dict",data:=.dict #[] }).get? l=some ol:=Heap.get?_push_of_some _ hl;refine wpAny_bind (wpAny_typeOf_ref hl1 ?_);rw [hc]
 rw [if_pos (by decide)]
 refine wpAny_bind (Z2 (A:=A.in1.in1) hl1 hc hdat hdd hA fun h2 tk2 k2=>?_);rw [if_pos (show(none:Option Value).isNone=true from rfl)];refine wpAny_bind (wpAny_rule ?_);have hl2:h2.IsList l items:=⟨ol,k2 _ _ hl1,hc,nl,hdat⟩;refine wpAny_bind (wpAny_pyIter_list (s:=⟨h2,_,_,_,_⟩) hl2 ?_);have g3:∀b o,s.heap.get? b=some o->(h2.push { cls:=.type "list_iterator",data:=.fields #[.ref l,.int 0 0] }).get? b=some o:=fun b o e=>Heap.get?_push_of_some _ (k2 _ _ (Heap.get?_push_of_some _ e));have hd3:(h2.push { cls:=.type "list_iterator",data:=.fields #[.ref l,.int 0 0] }).get? s.heap.objs.size=some { cls:=.type "dict",data:=.dict #[] }:=Heap.get?_push_of_some _ (k2 _ _ hnew);have lt2:s.heap.objs.size<h2.objs.size:=Heap.lt_size (k2 _ _ hnew);refine wpAny_pure ⟨plainId_quiet Qy _,?_⟩
 refine QcF (D:=D) (items:=items) (A:=A.in1) (l:=l) (Nat.ne_of_lt lt2) (Nat.ne_of_gt hlt) (Nat.ne_of_gt (Nat.lt_trans hlt lt2)) (by simpa using hA)
  (fun i h h'=>keep i h h' _ lt2) step items.size 0 _ (by omega) ⟨_,Heap.get?_push_size _ rfl,rfl,rfl⟩ ?_ (start _ g3 hd3) fun s' hd' hk' hs'=>?_
 ·obtain⟨o4,ho4,rest⟩:=hl2;exact⟨o4,Heap.get?_push_of_some _ ho4,rest⟩
 ·obtain⟨h4,c4,rfl⟩:=hs';exact⟨rfl,h h4 c4 hd' fun b o e=>hk' b o (Nat.ne_of_lt (Heap.lt_size e)) (Nat.ne_of_lt (Nat.lt_trans (Heap.lt_size e) lt2)) (g3 b o e)⟩
end
noncomputable def JG(kvs:List (List Key×V)):List (List Key×V):=kvs.foldl (fun acc p=>ZO acc p.1 p.2) []
noncomputable def Qku:List V->Hp->VK->Prop:=fun xs H Q=>∃a vs kvs,xs=[.ref a]/\H a=some (.lst vs) /\
 Paired (fun(v:V) (p:List Key×V)=>∃t kb,v=.ref t/\H t=some (.tup [.ref kb,p.2])/\H kb=some (.tup (p.1.map kV))) vs kvs/\∀d,H d=none->Q (.ref d) (upd H d (.dT (JG kvs)))
theorem Qax(kvs acc:List (List Key×V)):(kvs.foldl (fun acc p=>ZO acc p.1 p.2) acc).length<=acc.length+kvs.length:=by
 induction kvs generalizing acc with
 | nil=>simp
 | cons p r ih =>
  have h1:=ih (ZO acc p.1 p.2);have h2:=Q7 acc p.1 p.2;simp only [List.foldl_cons,List.length_cons];omega
theorem Qoz{α β:Type}{R:α->β->Prop}:∀{l:List α} {m:List β} {i:Nat} {a:α},Paired R l m->l[i]?=some a->∃b,m[i]?=some b/\R a b
 | _,_,0,_,.cons r _,h=>by cases(show some _=some _ from h);exact⟨_,rfl,r⟩
 | _,_,i+1,_,.cons _ t,h=>Qoz (i:=i) t h
theorem Qdh{kvs:List (List Key×V)}{i:Nat}{p:List Key×V}(h:kvs[i]?=some p):JG (kvs.take (i+1))=ZO (JG (kvs.take i)) p.1 p.2:=by
 unfold JG;rw [List.take_add_one,h];simp
theorem QcP{X:Cx}(hu:X.A.units+2<cLine)(hh:X.calm=true):CallR X (.type "dict") Qku:=by
 intro pins s σ H xs us Q I r h;obtain⟨a,vs,kvs,rfl,ha,pr,q⟩:=h;obtain⟨u,rfl,ru⟩:=QaN r;cases ru;obtain⟨z,its,n,rv,ho⟩:=(show ObjOk X.prog X.w H s.heap a (.lst vs)from I.hok a _ ha);have hnd:H s.heap.objs.size=none:=I.hok.fresh (Nat.le_refl _);have lv:vs.length=kvs.length:=Paired.length pr;have li:vs.length=its.length:=rv.length
 have isK:∀(h':Heap) ks kb,(∀b o,H b≠none->s.heap.get? b=some o->h'.get? b=some o)->H kb=some (.tup (ks.map kV))->(tupleKind (Qq X.prog X.w)).is h' ks kb:=fun h' ks kb k e=>by
  obtain⟨o,its,n,h1,h2,h3,h4⟩:=YO I.hok e
  exact⟨o,its,n,k kb o (by rw [e];exact fun z=>nomatch z) h1,h2,h3,h4⟩
 have allK:∀(h':Heap) {l:List (List Key×V)} {m:List (List Key×Addr×Value)},(∀b o,H b≠none->s.heap.get? b=some o->h'.get? b=some o)->KT H l m->∀x∈m,(tupleKind (Qq X.prog X.w)).is h' x.1 x.2.1:=by
  intro h' l m k q
  induction q with
  | nil=>intro x hx;exact nomatch hx
  | @cons p q ps qs hq t ih =>
   intro x hx
   rcases List.mem_cons.mp hx with e | hx
   ·subst e
    exact isK h' _ _ k (by rw [<-hq.1];exact hq.2.1)
   ·exact ih x hx
 refine Ja (D:=fun i h'=>∃ms,KT H (JG (kvs.take i)) ms/\h'.DictOfH (tupleKind (Qq X.prog X.w)) s.heap.objs.size ms/\∀b o,H b≠none->s.heap.get? b=some o->h'.get? b=some o)
  (I.ok.hd hh) ho rfl rfl rfl (fun h' k hd=>?_) (fun i h1 h' it lt ⟨ms,kt,dd,k⟩ e=>?_) (fun i u s' eu ⟨ms,kt,dd,k⟩=>?_) (fun h' tk ⟨ms,kt,dd,_⟩ k=>?_)
 ·refine⟨[],.nil,⟨_,#[],0,hd,⟨rfl,rfl,rfl⟩,rfl,rfl,?_,List.nodup_nil⟩,fun b o _ e=>k b o e⟩;intro x hx;cases hx
 ·have k':∀b o,H b≠none->s.heap.get? b=some o->h'.get? b=some o:=fun b o nb e'=>e b o (Nat.ne_of_lt (Nat.lt_trans (Heap.lt_size e') lt)) (k b o nb e');obtain⟨o,es,ep,d1,d2,d3,d4,d5,d6⟩:=dd;exact⟨ms,kt,⟨o,es,ep,e _ o (Nat.ne_of_lt lt) d1,d2,d3,d4,allK h' k' kt,d6⟩,k'⟩
 ·have eu':its[i]?=some u:=by simpa using eu
  have lt:i<its.length:=(List.getElem?_eq_some_iff.mp eu').1
  obtain⟨v,ev⟩:∃v,vs[i]?=some v:=⟨vs[i],by simp [li,lt]⟩
  obtain⟨u',eu2,rvu⟩:=rv.get ev;rw [eu']at eu2;cases eu2;obtain⟨p,ep,t,kb,rfl,ht,hkb⟩:=Qoz pr ev;cases(show u=Value.ref t from rvu);obtain⟨_,its2,r2,o,o1,o2,n2,o3⟩:=(show ObjOk X.prog X.w H s.heap t (.tup [.ref kb,p.2])from I.hok t _ ht);obtain⟨x1,x2,rfl,rx1,rx2⟩:=Qcq r2;cases(show x1=Value.ref kb from rx1)
  refine⟨t,.ref kb,x2,o,n2,rfl,k t o (by rw [ht];exact fun z=>nomatch z) o1,o2,o3,fun E Q hQ=>?_⟩
  have hsz:ms.length<=sizeLine:=by
   rw [<-Paired.length kt];have h1:=Qax (kvs.take i) []
   have h2:(kvs.take i).length<=kvs.length:=by simp [List.length_take];omega
   unfold JG;simp only [List.length_nil]at h1;omega
  refine wpAny_dictSet_heap (hsz:=hsz) (show X.A.units+2<cLine from hu) (isK _ _ _ k hkb) dd fun h' dd' hs=>hQ h' _ ⟨_,?_,dd',fun b o' nb e=>(hs.2 b (fun z=>?_)).trans (k b o' nb e)⟩ hs
  ·rw [Qdh ep];exact kt.put p.1 hkb rx2
  ·subst z;exact nb hnd
 ·have hz:its.toArray.size=kvs.length:=by simp;omega
  rw [hz,List.take_length]at kt;obtain⟨o,es,ep,d1,d2,d3,d4,d5,d6⟩:=dd;refine⟨.ref s.heap.objs.size,_,I.laid (a:=s.heap.objs.size) (o:=.dT (JG kvs)) (t':=tk) k (Nat.le_refl _) ⟨?_,?_,ms,kt.keeps fun b ys e=>?_,o,es,ep,d1,d2,d3,d4,d6⟩,rfl,q _ hnd⟩
  ·have:=Qax kvs [];unfold JG;simp only [List.length_nil]at this;omega
  ·exact beq_eq_false_iff_ne.mpr (Ne.symm (Nat.ne_of_lt I.big))
  ·rw [Qe (QX e hnd)];exact e
end L2
namespace L2
open PySem
noncomputable def QcN(cells:List (Str×Addr)):List (Str×NameKind)->List (Str×Addr)->List (Str×Addr)
 | [],cs=>cs
 | (n,k)::r,cs=>QcN cells r (if(k==.free)=true then(match cells.lookup n with | some c=>(n,c)::cs | none=>cs)else cs)
theorem Jq{scope:Scope}{env:Env}(h:∀y∈scope.names,y.2=.free->∃c,env.cells.lookup y.1=some c):closureFor scope env=pure (QcN env.cells scope.names []):=by
 have all:∀(l:List (Str×NameKind)) (cs:List (Str×Addr)),(∀y∈l,y.2=.free->∃c,env.cells.lookup y.1=some c) ->
   (forIn l cs fun(x:Str×NameKind) (r:List (Str×Addr))=>match x with | (name,kind)=>if(kind==NameKind.free)=true then(do let y <-cellOf env name;pure (ForInStep.yield ((name,y)::r)))else(pure (ForInStep.yield r):Sem _))=(pure (QcN env.cells l cs):Sem _):=by
  intro l
  induction l with
  | nil=>intro cs _;simp only [List.forIn_nil];rfl
  | cons p r ih =>
   obtain⟨n,k⟩:=p;intro cs hy;rw [List.forIn_cons];by_cases hk:(k==NameKind.free)=true
   ·obtain⟨c,hc⟩:=hy (n,k) List.mem_cons_self (by simpa using hk)
    have hc:env.cells.lookup n=some c:=hc
    have e:cellOf env n=pure c:=by unfold cellOf;rw [hc]
    simp only [hk,if_true,e,pure_bind];rw [ih _ fun y m=>hy y (List.mem_cons_of_mem _ m)];simp only [QcN,hk,if_true,hc]
   ·simp only [hk,Bool.false_eq_true,if_false,pure_bind];rw [ih _ fun y m=>hy y (List.mem_cons_of_mem _ m)];simp only [QcN,hk,Bool.false_eq_true,if_false]
 have:=all scope.names [] h;unfold closureFor;simp only [bind_pure_comp]at this ⊢;rw [this];rfl
theorem QaB{cells:List (Str×Addr)}{x:Str}{c:Addr}:∀{l:List (Str×NameKind)} {cs:List (Str×Addr)},(QcN cells l cs).lookup x=some c->cs.lookup x=some c\/cells.lookup x=some c
 | [],_,h=>.inl h
 | (n,k)::r,cs,h=>by
  have h:(QcN cells r (if(k==NameKind.free)=true then(match cells.lookup n with | some c=>(n,c)::cs | none=>cs)else cs)).lookup x=some c:=h
  rcases QaB h with h1 | h1
  ·clear h;by_cases hk:(k==NameKind.free)=true
   ·rw [if_pos hk]at h1
    cases hc:cells.lookup n with
    | none=>rw [hc]at h1;exact .inl h1
    | some c' =>
     rw [hc]at h1;have h2:List.lookup x ((n,c')::cs)=some c:=h1;clear h1;rw [List.lookup_cons]at h2
     cases hx:x==n with
     | true =>
      rw [hx]at h2;have e:=eq_of_beq hx;subst e;exact .inr (hc.trans h2)
     | false=>rw [hx]at h2;exact .inl h2
   ·rw [if_neg hk]at h1;exact .inl h1
  ·exact .inr h1
theorem JK{cells:List (Str×Addr)}{x:Str}{c:Addr}(hc:cells.lookup x=some c):∀{l:List (Str×NameKind)} {cs:List (Str×Addr)},((x,NameKind.free)∈l\/cs.lookup x=some c)->(QcN cells l cs).lookup x=some c
 | [],_,h=>by
  rcases h with h | h
  ·cases h
  ·exact h
 | (n,k)::r,cs,h=>by
  show(QcN cells r (if(k==NameKind.free)=true then(match cells.lookup n with | some c=>(n,c)::cs | none=>cs)else cs)).lookup x=some c
  refine JK (l:=r) hc ?_
  rcases h with h | h
  ·rcases List.mem_cons.mp h with e | h
   ·cases e;refine .inr ?_
    rw [if_pos (by decide),hc]
    simp [List.lookup_cons]
   ·exact .inl h
  ·refine .inr ?_;split
   ·split
    ·rename_i c' h';rw [List.lookup_cons];split
     ·rename_i e;have e:=eq_of_beq e;subst e;exact h'.symm.trans hc
     ·exact h
    ·exact h
   ·exact h
noncomputable def mang(x:Str):Str:=⟨x.cps.push 33⟩
noncomputable def hideN(xs N:List Str):List Str:=N.map fun y=>if xs.contains y then mang y else y
theorem Z0{xs N:List Str}:(hideN xs N).length=N.length:=by unfold hideN;rw [List.length_map]
theorem Qgf{xs N:List Str}{i:Nat}{y:Str}(h:(hideN xs N)[i]?=some y):∃z,N[i]?=some z/\((z∈xs/\y=mang z)\/(z∉xs/\y=z)):=by
 unfold hideN at h;rw [List.getElem?_map,Option.map_eq_some_iff]at h;obtain⟨z,h1,h2⟩:=h;refine⟨z,h1,?_⟩;by_cases c:xs.contains z=true
 ·rw [if_pos c]at h2;exact .inl ⟨List.contains_iff_mem.mp c,h2.symm⟩
 ·rw [if_neg c]at h2;exact .inr ⟨fun m=>c (List.contains_iff_mem.mpr m),h2.symm⟩
noncomputable def relN(outer:List (Str×NameKind))(names:List (Str×NameKind)):List (Str×NameKind):=names.map fun(n,k)=>if(k==.free&&outer.lookup n==some .cell)=true then(n,.cell)else(n,k)
theorem QS{scope:Scope}{env:Env}(h:env.scope.kind=.function):(relabel scope env).names=relN env.scope.names scope.names:=by
 unfold relabel relN;refine List.map_congr_left fun p _=>?_;obtain⟨n,k⟩:=p;simp only [h,beq_self_eq_true,Bool.and_true];rfl
theorem Zt{outer:List (Str×NameKind)}{x:Str}:∀{l:List (Str×NameKind)},(relN outer l).lookup x=(l.lookup x).map fun k=>if(k==.free&&outer.lookup x==some .cell)=true then .cell else k
 | []=>rfl
 | (n,k)::r=>by
  have ih:=@Zt outer x r;show List.lookup x ((if(k==NameKind.free&&outer.lookup n==some .cell)=true then(n,NameKind.cell)else(n,k))::relN outer r)=_;rw [List.lookup_cons (as:=r)]
  cases hx:x==n with
  | true =>
   have e:=eq_of_beq hx;subst e;simp only [List.lookup_cons_self,Option.map_some];by_cases z:(k==NameKind.free&&outer.lookup x==some .cell)=true
   ·rw [if_pos z,if_pos z,List.lookup_cons_self]
   ·rw [if_neg z,if_neg z,List.lookup_cons_self]
  | false =>
   split
   ·simp [List.lookup_cons,hx,ih]
   ·simp [List.lookup_cons,hx,ih]
theorem Yb{κ β:Type}[BEq κ][LawfulBEq κ]{l:List (κ×β)}{k:κ}{b:β}(h:l.lookup k=some b):(k,b)∈l:=by
 induction l with
 | nil=>simp at h
 | cons p r ih =>
  obtain⟨a,c⟩:=p;rw [List.lookup_cons]at h;split at h
  ·rename_i e;have e:=eq_of_beq e;subst e;cases h;exact List.mem_cons_self
  ·exact List.mem_cons_of_mem _ (ih h)
section
variable {prog:Program}{w:World}{A:Around}{R:Result->Shared->Prop}{s:Shared}
theorem Qfr{E:Value->Shared->Prop}{env:Env}{tl:Option Expr}{Q:Bool->Shared->Prop}(h:match tl with | none=>Q true s | some c=>wpAny (model prog w) A (isTrue c env (eval c env)) Q E s):
  wpAny (model prog w) A (forIn tl.toList true fun c r=>if r=true then do let ok <-isTrue c env (eval c env);pure (ForInStep.yield ok)else pure (ForInStep.yield r)) Q E s:=by
 cases tl with
 | none=>exact wpAny_tests_nil h
 | some c=>exact wpAny_tests_one h
theorem Qbn{elt target iter:Expr}{tl:Option Expr}{scope:Scope}{pos:Pos}{it acc:Value}{env:Env}(I:Nat->Shared->Prop)
  (turn:∀n s,I n s->wpAny (model prog w) A (pyNext it) (fun r s₁=>match r with
   | none=>R (.ok .next) s₁
   | some v=>wpAny (model prog w) A (letOwnedTupleGo target it v) (fun _ s₁'=>wpAny (model prog w) A (assign target env v) (fun _ s₂ =>
     wpAny (model prog w) A (forIn tl.toList true fun c r=>if r=true then do let ok <-isTrue c env (eval c env);pure (ForInStep.yield ok)else pure (ForInStep.yield r)) (fun ok s₃=>if ok=true then
      wpAny (model prog w) A (eval elt env) (fun x s₄ =>
       wpAny (model prog w) A (call (.builtin "list.append") [acc, x]) (fun _ s₅ => ∃ m, m < n /\ I m s₅) (notedBy (model prog w) A env fun e s' => R (.error e) s') s₄) (notedBy (model prog w) A env fun e s' => R (.error e) s') s₃
      else ∃m,m<n/\I m s₃) (notedBy (model prog w) A env fun e s'=>R (.error e) s') s₂)
        (notedBy (model prog w) A env fun e s'=>R (.error e) s') s₁') (notedBy (model prog w) A env fun e s'=>R (.error e) s') s₁) (notedBy (model prog w) A env fun e s'=>R (.error e) s') s)
  (n:Nat) (h:I n s):codeAny (model prog w) A (.compLoop (.ListComp elt [⟨target,iter,tl.toList,0⟩] scope pos) 0 it acc env) R s:=by
 refine codeAny_loop rfl I (fun n s hI=>?_) n h
 show wpAny _ A ((compTurn (.ListComp elt [⟨target,iter,tl.toList,0⟩] scope pos) 0 it acc env).onRaise (fun x=>do noteFrame x env;theTreesLotGoes x)) _ _ s
 refine wpAny_noted ?_;rw [compTurn_list];refine wpAny_bind (wpAny_standAt (wpAny_bind (wpAny_mono (turn n s hI) (fun r s₁ h₁=>?_) fun _ _ h'=>h')))
 cases r with
 | none=>exact wpAny_pure h₁
 | some v =>
  refine wpAny_bind (wpAny_mono h₁ (fun _ s₁' h₁'=>?_) fun _ _ h'=>h');refine wpAny_bind (wpAny_mono h₁' (fun _ s₂ h₂=>wpAny_bind (wpAny_mono h₂ (fun ok s₃ h₃=>?_) fun _ _ h'=>h')) fun _ _ h'=>h')
  cases ok with
  | true =>
   rw [if_pos rfl]at h₃;exact wpAny_bind (wpAny_bind (wpAny_mono h₃ (fun x s₄ h₄=>wpAny_bind (wpAny_mono h₄ (fun _ s₅ h₅=>wpAny_pure (wpAny_pure ⟨rfl,h₅⟩)) fun _ _ h'=>h')) fun _ _ h'=>h'))
  | false =>
   rw [if_neg Bool.false_ne_true]at h₃;exact wpAny_bind (wpAny_pure (wpAny_pure ⟨rfl,h₃⟩))
end
end L2
namespace L2
open PySem PySem.Spec PySem.W PyProof.Rows PySem.Calls PySem.Builtin PySem.Builtin.ObjectAttr PySem.Builtin.Getset_descriptor
structure ErrCls(K:PySem.W.Frag)(C:Addr):Prop where
 ga:findIn K (.ref C) "__getattribute__"=some (some (.builtin "BaseException.__getattribute__"))
 gh:findIn K (.ref C) "__getattr__"=some none
 cl:findIn K (.ref C) "__class__"=some (some (.builtin "object.__class__"))
 gg:specialIn K (.builtin "object.__class__") "__get__"=some (some (.builtin "getset_descriptor.__get__"))
 tk:takesIn K (.builtin "object.__class__")=some true
 sb:subIn K (.ref C) (.type "BaseException")=some true
 so:subIn K (.ref C) (.type "object")=some true
 is:(clsIn K C).isSome=true
noncomputable def JQ(a C:Addr)(h:Heap):Prop:=∃o vs,h.get? a=some o/\o.cls=.ref C/\o.data=.fields vs
section
variable {prog:Program}{w:World}{A:Around}{E:Value->Shared->Prop}{K:PySem.W.Frag}{h:Heap}{g:Array GenState}{d:Drawn}{t:Nat}{os:OsState}{a C:Addr}
theorem Qay{M:Model}(p:JQ a C h):Looks M h (typeOf (.ref a)) (.ref C):=by
 obtain⟨o,vs,h1,h2,_⟩:=p;exact h2▸(Looks.ld h1).andThen .now
theorem Qgn{M:Model}(Y:ErrCls K C)(X:K.In h):Looks M h (find (.ref a) (.ref C) "__class__") (.bind (.builtin "getset_descriptor.__get__") (.builtin "object.__class__")):=by
 have L1:=looks_findIn (M:=M) X Y.cl;have L2:Looks M h (getOf (some (.builtin "object.__class__"))) (some (.builtin "getset_descriptor.__get__")):=looks_specialIn X Y.gg
 have L3:Looks M h (dataDescriptor? (some (.builtin "object.__class__")) (some (.builtin "getset_descriptor.__get__"))) (some (.builtin "getset_descriptor.__get__",.builtin "object.__class__")):=by
  unfold dataDescriptor?;refine(looks_takesIn X Y.tk).andThen ?_;exact .now
 refine L1.andThen (L2.andThen (L3.andThen ?_));exact Looks.tag .now
theorem Qbf{R:Result->Shared->Prop}(Y:ErrCls K C)(X:K.In h)(p:JQ a C h)(hq:R (.ok (.ret (.ref C))) ⟨h,g,d,t,os⟩):
  codeAny (model prog w) A (.call (.builtin "getset_descriptor.__get__") ⟨[.builtin "object.__class__",.ref a,.ref C],[]⟩) R ⟨h,g,d,t,os⟩:=by
 have L1:=looks_subIn (M:=model prog w) X Y.so;have L0:=Qay (M:=model prog w) p;refine codeAny_call_builtin KF.slot_gs.plain KF.entry_gs (KF.slot_gs.check _ _ _ _ _ _ _ _ KF.type_class (KF.args_gs _ _ _) ?_);unfold Builtin.«getset_descriptor.__get__» descrGet;rw [dga_obj];refine wpAny_bind (wpAny_pure ?_);unfold descrGetter descrCheckInstance descrNameAndClass isInstance;simp only [KF.owner_class]
 repeat lk
 refine⟨Code.quiet_builtin _ (by decide +kernel),codeAny_builtin KF.entry_class ?_⟩
 unfold Builtin.«object.__class__» shownTypeOf
 repeat lk
 exact hq
theorem QeD{M:Model}{nameV:Value}{Q:Unit->Shared->Prop}(Y:ErrCls K C)(X:K.In h)(p:JQ a C h)(hq:Q () ⟨h,g,d,t,os⟩):wpAny M A (checkBuiltinCall "BaseException.__getattribute__" ⟨[.ref a,nameV],[]⟩) Q E ⟨h,g,d,t,os⟩:=by
 have hk:builtinKind "BaseException.__getattribute__"=some .slot:=by decide +kernel
 have hsplit:splitId "BaseException.__getattribute__"=some ("BaseException","__getattribute__"):=by decide +kernel
 have ha:=PySem.F.args_bexc_ga (.ref a) nameV;have L2:Looks M h (isInstance (.ref a) (.type "BaseException")) true:=(Qay p).andThen (looks_subIn X Y.sb);simp only [checkBuiltinCall,hk,hsplit];refine wpAny_bind (L2.at ?_)
 repeat (first | wp_step)
 exact hq
theorem QeB{tk:Tok}{Q:Fin->Shared->Prop}(Y:ErrCls K C)(X:K.In h)(p:JQ a C h)(hq:Q (.done (.ret (.ref C))) ⟨h,g,d,t,os⟩):
  wpAny (model prog w) A (Builtin.«object.__getattribute__» ⟨[.ref a,.str "__class__" tk],[]⟩) Q E ⟨h,g,d,t,os⟩:=by
 have L0:=Qay (M:=model prog w) p;have L1:=Qgn (M:=model prog w) (a:=a) Y X;unfold Builtin.«object.__getattribute__»;refine wpAny_bind (wpAny_pure (wpAny_bind (wpAny_pure (wpAny_bind (L0.at (wpAny_bind (L1.at ?_)))))));show wpAny _ _ (holding [_] (call (.builtin "getset_descriptor.__get__") [.builtin "object.__class__",.ref a,.ref C]) >>= ret) _ _ _;exact wpAny_bind (wpAny_holding (wpAny_call (Qbf Y X p (wpAny_pure hq))))
theorem QeC{Q:Option Value->Shared->Prop}(Y:ErrCls K C)(X:K.In h)(p:JQ a C h)(hq:Q (some (.ref C)) ⟨h,g,d,t+1,os⟩):
  wpAny (model prog w) A (getAttr? (.ref a) "__class__") Q E ⟨h,g,d,t,os⟩:=by
 have L0:=Qay (M:=model prog w) p;have L1:=looks_findIn (M:=model prog w) X Y.ga;have L2:=looks_findIn (M:=model prog w) X Y.gh;unfold getAttr? getAttrBy? getAttrBy;refine wpAny_bind (wpAny_mkText (wpAny_bind (wpAny_attempt (wpAny_holding (wpAny_bind (L0.at (wpAny_bind (L1.at ?_))))))));dsimp only
 have hne:¬(onTheHeap (Value.ref C)&&Value.builtin "BaseException.__getattribute__"==Value.builtin "object.__getattribute__")=true:=by
  rw [show(Value.builtin "BaseException.__getattribute__"==Value.builtin "object.__getattribute__")=false from by decide +kernel]
  simp
 rw [if_neg hne];unfold getAttrByItsOwn hookBefore;refine wpAny_bind ?_;rw [if_pos (show onTheHeap (Value.ref C)=true from rfl)];refine L2.at ?_;refine wpAny_bind (wpAny_attempt (wpAny_holding ?_));have f3:=PySem.F.attrBase_ValueError.ga.bind (.ref a);show wpAny _ _ (boundAndCalled (.builtin "BaseException.__getattribute__") (.ref a) _) _ _ _;unfold boundAndCalled;refine wpAny_bind (wpAny_of_eq f3 ?_);refine wpAny_call ?_;refine codeAny_call_builtin PySem.F.attrBase_ValueError.ga.plain PySem.F.entry_bexc_ga (QeD Y X p (QeB Y X p ?_));show wpAny _ _ (handedOut _) _ _ _;exact wpAny_pure (wpAny_pure hq)
theorem Qgb(Y:ErrCls K C):KitX K (.ref a) (.ref C) (JQ a C) where
 ty:=fun _ _ _ p=>Qay p
 it:=fun _ _ X _=>by
  obtain⟨cdD,hcD⟩:=Option.isSome_iff_exists.mp Y.is;unfold clsIn at hcD;split at hcD
  ·rename_i c' d' cd' sl' ho;intro A' Q' E' s' k q;unfold isType loadHead;exact wpAny_bind (wpAny_loadPart (k _ _ (X _ _ ho)) (wpAny_pure q))
  ·cases hcD
 ne:=fun h tp dd its n sl X htp=>by
  obtain⟨cdD,hcD⟩:=Option.isSome_iff_exists.mp Y.is;refine Bool.eq_false_iff.mpr fun q=>?_;have e:C=tp:=Value.ref.inj (beq_iff_eq.mp q);subst e;unfold clsIn at hcD;split at hcD
  ·rename_i c' d' cd' sl' ho;have z:=(X _ _ ho).symm.trans htp;cases z
  ·cases hcD
 ca:=fun {_ _ _ _ _ s} X p k=>by
  obtain⟨h,g,d,t,os⟩:=s;exact QeC Y X p k
end
noncomputable def Qmc(a C:Addr):HO:=.ext (JQ a C)
theorem Qgo{X:Cx}{pins:List (Addr×Obj)}{σ:St}{H:Hp}{s:Shared}{a C:Addr}(I:Inv X pins σ H s)(e:H a=some (Qmc a C)):JQ a C s.heap :=
 (show ObjOk X.prog X.w H s.heap a (.ext (JQ a C))from I.hok a _ e).1
theorem QeZ {X : Cx} : CallR X (.builtin "isinstance") (fun xs H Q => ∃ a c cv C b, xs = [.ref a, c] /\ (match c with | .ty n => some (Value.type n) | .ref r => some (.ref r) | _ => none) = some cv /\ H a = some (Qmc a C) /\ ErrCls X.K C /\ PySem.W.kitOne X.K (.ref C) cv = some b /\ Q (.bl b) H) := by
 intro pins s σ H xs us Q I r h;obtain⟨a,c,cv,C,b,rfl,hc,ha,Y,e,q⟩:=h;obtain⟨u,w',rfl,rx,rc⟩:=Qcq r;cases(show u=Value.ref a from rx)
 have ec:w'=cv:=by
  cases c with
  | ty n=>cases(show w'=Value.type n from rc);exact Option.some.inj hc
  | ref r0=>cases(show w'=Value.ref r0 from rc);exact Option.some.inj hc
  | _=>cases hc
 subst ec;exact PySem.W.kia_one (Qgb Y) I.kIn (Qgo I ha) e (fun z=>nomatch z) fun tk=>⟨.bl b,H,I.tok tk,rfl,q⟩
end L2
namespace L2
open PySem PySem.Spec PySem.W PyProof.Rows
structure Cov(B:Heap)(H:Hp)(s:Shared)(l:List Env):Prop where
 trk:∀b u,H b=some u->∃o,B.get? b=some o
 old:∀b o,s.heap.get? b=some o->b∉frs l->∃o',B.get? b=some o'
noncomputable def CXw(P:Program)(w:World):CXT:=fun outer H s E e s'=>∃a C H' B a0,e=.ref a/\s'.os=s.os/\AllBare s'.gens/\Un (frs outer) [] H H' s.heap s'.heap/\HOk P w H' s'.heap /\
 Heap.FlyingW B outer a (.ref C) a0 s'.heap/\Cov B H' s outer/\H' a=none/\s.heap.get? a=none/\E (.ref C) none H'
section
variable {X:Cx}{pins:List (Addr×Obj)}{σ:St}{H H':Hp}{s s':Shared}{e C:Addr}{B:Heap}{a0:Value}{E:XK}
end
end L2
namespace L2
open PySem PySem.Spec PySem.W PyProof.Rows
noncomputable def QjO:List Value:=[.type "ValueError",.type "Exception",.type "BaseException",.type "object"]
section
variable {X:Cx}{C:Addr}{x:Str}{np cpos pos:Pos}{args:List Expr}{t:TA}{W:Hp->Prop}
end
section
variable {X:Cx}{pins:List (Addr×Obj)}{σ:St}{H H':Hp}{s s':Shared}{e C C':Addr}{B:Heap}{a0:Value}{x n y:Str}{i j:Nat}{np py pn pa pos:Pos}{Q:Flow->Shared->Prop}{E:Value->Shared->Prop}
end
end L2
namespace L2
open PySem PySem.Spec PyProof.Rows
section
variable {X:Cx}{pins:List (Addr×Obj)}{σ:St}{H:Hp}{s:Shared}{d:Addr}
theorem Inv.freeze{kv:List (Key×V)}(I:Inv X pins σ H s)(h:H d=some (.dK kv)):∃o es ep,s.heap.get? d=some o/\o.data=.dict es ep/\Inv X pins σ (upd H d (.frz o (.dK kv))) s:=by
 obtain⟨hz,hm,vs,r,o,es,ep,e,c,dt,rr⟩:=Qbi I.hok h;refine⟨o,es,ep,e,dt,?_⟩
 have:=I.write (x:=d) (e:=d) (o:=.frz o (.dK kv)) (h':=s.heap) (t':=s.toks) (by rw [h];trivial) (.inl rfl) (fun b u _ q=>q) ⟨o,e⟩ ⟨e,hz,hm,vs,r,o,es,ep,e,c,dt,rr⟩
 exact this
theorem Inv.thaw{o:Obj}{kv:List (Key×V)}(I:Inv X pins σ H s)(h:H d=some (.frz o (.dK kv)))(h0:∀o' u',X.H₀ d≠some (.frz o' u')):Inv X pins σ (upd H d (.dK kv)) s:=by
 have ne:∀{b:Addr},H b=none->b≠d:=fun q z=>by rw [z,h]at q;cases q
 refine⟨I.ok,I.os,I.bare,⟨I.base.keep,I.base.slot,fun b ob q n hx=>?_,I.base.there,fun b xs q=>?_,fun b ob u q=>?_,fun b ps q=>?_⟩,I.loc,I.cell,?_,fun x c e=>?_,fun p hp=>?_,fun b u q=>?_,I.len⟩
 ·have:=I.base.free b ob q n hx;rw [Qe (ne this)];exact this
 ·have:=I.base.tups b xs q
  rw [Qe (fun z=>by rw [z,h]at this;cases this)]
  exact this
 ·have:=I.base.frzs b ob u q
  rw [Qe (fun z=>by subst z;exact h0 _ _ q)]
  exact this
 ·obtain⟨more,e⟩:=I.base.tbls b ps q;refine⟨more,?_⟩
  rw [Qe (fun z=>by rw [z,h]at e;cases e)]
  exact e
 ·rw [Qe (ne I.free)];exact I.free
 ·rw [Qe (ne (I.freeC x c e))];exact I.freeC x c e
 ·obtain⟨a1,a2,a3⟩:=I.pin p hp
  exact⟨a1,by rw [Qe (ne a2)];exact a2,a3⟩
 ·by_cases hb:b=d
  ·subst hb;rw [Qf]at q;cases q;obtain⟨_,ok⟩:=I.hok b _ h;exact ok
  ·rw [Qe hb]at q;refine(I.hok b u q).stay (fun c v _ r=>r) (fun c r=>?_) fun c xs r=>?_
   ·rw [Qe (fun z=>by rw [z,h]at r;cases r)];exact r
   ·rw [Qe (fun z=>by rw [z,h]at r;cases r)];exact r
end
noncomputable def Itk(a:Addr)(o:Obj)(kv:List (Key×V)):It :=
 ⟨fun i H=>H a=some (.frz o (.dK kv))/\i<kv.length,fun i H x H'=>H'=H/\∃p,kv[i]?=some p/\x=kV p.1,fun i H=>H a=some (.frz o (.dK kv))/\kv.length<=i⟩
theorem QiO{P:Program}{w:World}{k:Key}{u:Value}(h:(Qq P w).is k u=true):RelV (kV k) u:=by
 rcases QB (show Qa9 k u=true from h)with⟨i,t,rfl,rfl⟩ | ⟨x,t,rfl,rfl⟩
 ·exact⟨t,rfl⟩
 ·exact⟨t,rfl⟩
theorem Qg7:∀{kv:List (Key×V)} {vs:List (Key×Value)} {i:Nat} {p:Key×V} {q:Key×Value},KV kv vs->kv[i]?=some p->vs[i]?=some q->p.1=q.1
 | _,_,i,p,q,.nil,h1,h2=>by simp at h1
 | _,_,0,p,q,.cons r t,h1,h2=>by
  simp at h1 h2;subst h1 h2;exact r.1
 | _,_,i+1,p,q,.cons r t,h1,h2=>Qg7 (i:=i) t (by simpa using h1) (by simpa using h2)
theorem Qda{P:Program}{w:World}{K:PySem.W.Frag}{tg:Expr}(a it:Addr)(o:Obj)(kv:List (Key×V))(es:Array DictEntry)(ep:Nat)(hd:o.data=.dict es ep):
  Turn P w K tg (Itk a o kv) [it] it (fun i h=>h.IsKeyIter it a i kv.length ep) where
 mem:=by simp
 obj:=fun i h st b hb=>by
  have e:b=it:=by simpa using hb
  subst e;obtain⟨o,e,c,d⟩:=st
  exact⟨o,e,fun v z=>by rw [d]at z;cases z⟩
 keep:=fun i h h' st k=>by
  obtain⟨o,e,r⟩:=st
  exact⟨o,k it (by simp) o e,r⟩
 item:=by
  intro X hP hw hK hc i pins s σ H E I hf st hg;subst hP hw hK
  obtain⟨f0,f1,f2,f3,f4,f5⟩:=hf it (by simp)
  obtain⟨hg,hi⟩:=hg;obtain⟨eo,hz,hm,vs,rr,o',es',ep',e',c',dt',r'⟩:=I.hok a _ hg;rw [eo]at e';cases e';rw [hd]at dt';cases dt';have hl:=Paired.length rr
  have hi':i<vs.length:=by omega
  have D:s.heap.DictAt (Qq X.prog X.w) a vs ep:=⟨o,es,eo,c',hd,r'⟩;have st':=st;rw [hl]at st';refine wpAny_pyNext_dict_item st' D (k:=vs[i].1) (v:=vs[i].2) (List.getElem?_eq_getElem hi') fun key h' hk hit sb=>?_;have I1:Inv X pins σ H { s with heap:=h' }:=I.turned (t':=s.toks) (fun b o hb e=>(sb.2 b hb).trans e) f0 f1 f3 f4 f5;obtain⟨oi,e,c,dd⟩:=id hit
  have ek:kv[i].1=vs[i].1:=by
   exact Qg7 rr (List.getElem?_eq_getElem hi) (List.getElem?_eq_getElem hi')
  refine⟨key,rfl,Qbb (s:={ s with heap:=h' }) e c dd (by decide) ⟨kV kv[i].1,H,I1,by rw [ek];exact QiO hk,⟨rfl,kv[i],List.getElem?_eq_getElem hi,rfl⟩,?_,fun b hb=>(hf b hb).1⟩⟩
  rw [hl];exact hit
 done:=by
  intro X hP hw hK hc i pins s σ H E I hf st hg;subst hP hw hK
  obtain⟨f0,f1,f2,f3,f4,f5⟩:=hf it (by simp)
  obtain⟨hg,hi⟩:=hg;obtain⟨eo,hz,hm,vs,rr,o',es',ep',e',c',dt',r'⟩:=I.hok a _ hg;rw [eo]at e';cases e';rw [hd]at dt';cases dt';have hl:=Paired.length rr;have D:s.heap.DictAt (Qq X.prog X.w) a vs ep:=⟨o,es,eo,c',hd,r'⟩;have st':=st;rw [hl]at st'
  exact wpAny_pyNext_dict_end (I.ok.hd hc) st' D (List.getElem?_eq_none (by omega)) fun h' eb=>⟨rfl,I.turned (t':=s.toks) (fun b o hb e=>eb b o hb e) f0 f1 f3 f4 f5⟩
 self:=fun _ _ _ _ _ st h=>wpAny_pyIter_keyiter st h
section
variable {X:Cx}
noncomputable def QnA(te:TE):TI:=fun σ H R=>te σ H fun x H1=>∃a kv,x=.ref a/\H1 a=some (.dK kv)/\∀o,R (Itk a o kv) (upd H1 a (.frz o (.dK kv)))
theorem Qij{tg e:Expr}{te:TE}(he:PE X e te):PI X tg e (QnA te):=by
 intro pins s σ H R I h;refine thn (he pins s σ H _ I h) fun u s1 ⟨x,H1,I1,rx,q1⟩=>?_;obtain⟨a,kv,rfl,hk,q⟩:=q1;cases rx;obtain⟨hz,hm,vs,r,dof⟩:=Qbi I1.hok hk;obtain⟨o,es,ep,eo,hd,I2⟩:=I1.freeze hk;have hl:=Paired.length r;obtain⟨ep',D⟩:=dof.dictAt
 have ee:ep'=ep:=by
  obtain⟨o',es',e',c',dt',_⟩:=id D;rw [eo]at e';cases e';rw [hd]at dt';cases dt';rfl
 subst ee;refine wpAny_pyIter_dict hm D ?_
 refine⟨s1.heap.objs.size,[s1.heap.objs.size],_,Itk a o kv,_,rfl,I2.kept (t':=s1.toks) fun b o e=>Heap.get?_push_of_some _ e,Qda a _ o kv es ep' hd,⟨_,Heap.get?_push_size _ rfl,rfl,by rw [hl];rfl⟩,fun b hb=>?_,q o⟩
 have e:b=s1.heap.objs.size:=by simpa using hb
 subst e;exact I2.fpOk (Nat.le_refl _) (I2.hok.fresh (Nat.le_refl _))
noncomputable def QfB(d:Addr)(H:Hp)(P:Hp->Prop)(H':Hp):Prop:=∃o kv,H' d=some (.frz o (.dK kv))/\P (upd H' d (.dK kv))
noncomputable def QmO(ts:TS):TS:=fun D σ H=>∃d kv,H d=some (.dK kv)/\ts ⟨fun σ'=>QfB d H (D.nx σ'),fun v=>QfB d H (D.rt v),fun σ'=>QfB d H (D.bk σ'),fun σ'=>QfB d H (D.ct σ')⟩ σ H
theorem Qh8{st:Stmt}{ts:TS}(h:PS X st ts):PS X st (QmO ts):=by
 intro pins s σ H D I q;obtain⟨d,kv,hk,q⟩:=q
 have h0:∀o' u',X.H₀ d≠some (.frz o' u'):=fun o' u' z=>by
  have:=I.base.frzs d o' u' z;rw [hk]at this;cases this
 refine thn (h pins s σ H _ I q) fun f s' hf=>?_
 cases f with
 | next=>obtain⟨σ',H',I',o,kv',e,p⟩:=hf;exact⟨σ',_,I'.thaw e h0,p⟩
 | brk=>obtain⟨σ',H',I',o,kv',e,p⟩:=hf;exact⟨σ',_,I'.thaw e h0,p⟩
 | cont=>obtain⟨σ',H',I',o,kv',e,p⟩:=hf;exact⟨σ',_,I'.thaw e h0,p⟩
 | ret u=>obtain⟨v,σ',H',I',rv,o,kv',e,p⟩:=hf;exact⟨v,σ',_,I'.thaw e h0,rv,p⟩
end
end L2
namespace L2
open PySem PySem.Spec PyProof.Rows
section
variable {prog:Program}{w:World}{A:Around}{E:Value->Shared->Prop}{s:Shared}
theorem Qf7{it d:Addr}{i ep:Nat}{od:Obj}{es:Array DictEntry}{Q:Option Value->Shared->Prop}(hit:s.heap.IsKeyIter it d i es.size ep)(hod:s.heap.get? d=some od)(hdd:od.data=.dict es ep)(hlt:i<es.size)
  (hQ:∀h',h'.IsKeyIter it d (i+1) es.size ep->Heap.SameBut it s.heap h'->Q (some es[i].key) { s with heap:=h' }):wpAny (model prog w) A (pyNext (.ref it)) Q E s:=by
 obtain⟨o,ho,hc,hd⟩:=id hit;have ty:=hit.typeIs;have sl:=PySem.F.slot_dict_keyiterator_next
 have own:Builtin.Dict_items.ownsTuple "dict_keyiterator"=false:=by decide
 have nn:¬((Value.ref d==Value.none)=true):=Bool.false_ne_true;unfold pyNext;refine wpAny_bind (wpAny_attempt (wpAny_callSpecial?_slot (name:=Str.ofString "__next__") ty sl (wpAny_call_entry sl ty PySem.F.entry_dict_keyiterator_next ?_ (PySem.F.args_dict_keyiterator_next_1 _))));refine wpAny_bind (wpAny_pure (wpAny_bind (wpAny_bind ?_)))
 first
  | refine wpAny_bind (wpAny_typeNameOfWhole_keyiter ty (wpAny_pure ?_))
  | refine wpAny_bind (wpAny_typeNameOf_keyiter ty (wpAny_pure ?_))
 refine wpAny_bind (wpAny_fieldsOf ho hd ?_);simp only [own,Bool.false_eq_true,if_false];show wpAny _ _ (if(Value.ref d==Value.none)=true then _ else _) _ _ s;rw [if_neg nn];refine wpAny_bind (wpAny_pure (wpAny_bind (wpAny_dictEntries hod hdd ?_)))
 rw [if_neg (by simp)]
 refine wpAny_bind (wpAny_pure (wpAny_bind (wpAny_dictEpoch hod hdd ?_)))
 rw [if_neg (by simp)]
 refine wpAny_pure ?_
 have i0:¬((i:Int) < 0):=by omega
 simp only [i0,if_false,Int.toNat_natCast,Array.getElem?_eq_getElem hlt];refine wpAny_bind ?_
 first
  | refine wpAny_bind (wpAny_typeNameOfWhole_keyiter ty (wpAny_pure ?_))
  | refine wpAny_bind (wpAny_typeNameOf_keyiter ty (wpAny_pure ?_))
 refine wpAny_bind (wpAny_isOneOf_keyiter ty ?_);show wpAny _ _ (setField (.ref it) 1 (rawInt ((i:Int)+1)) >>= _) _ _ s
 refine wpAny_bind (wpAny_setField ho hd (by simp) ?_)
 have nx:(s.heap.update it (Obj.mapFields (·.setIfInBounds 1 (rawInt ((i:Int)+1))))).IsKeyIter it d (i+1) es.size ep:=by
  refine⟨_,Heap.get?_update_self _ ho (Obj.isFreed_of_fields (Obj.data_mapFields hd _)),(Obj.cls_mapFields ..).trans hc,?_⟩;rw [Obj.data_mapFields hd];simp [rawInt]
 refine wpAny_bind (wpAny_holding (wpAny_bind ?_));refine wpAny_isOneOf_keyiter (s:={ s with heap:=s.heap.update it (Obj.mapFields (·.setIfInBounds 1 (rawInt ((i:Int)+1)))) }) nx.typeIs ?_;show wpAny _ _ (pure es[i].key) _ _ _;exact wpAny_pure (wpAny_pure ⟨_,rfl,wpAny_pure (hQ _ nx (Heap.SameBut.update ..))⟩)
theorem Qi3{it d:Addr}{i ep:Nat}{od:Obj}{es:Array DictEntry}{Q:Option Value->Shared->Prop}(hh:A.handled=none)(hit:s.heap.IsKeyIter it d i es.size ep)(hod:s.heap.get? d=some od)(hdd:od.data=.dict es ep)(hge:es.size<=i)
  (hQ:∀h',Heap.ExtBut it s.heap h'->Q none { s with heap:=h' }):wpAny (model prog w) A (pyNext (.ref it)) Q E s:=by
 obtain⟨o,ho,hc,hd⟩:=id hit;have ty:=hit.typeIs;have sl:=PySem.F.slot_dict_keyiterator_next
 have own:Builtin.Dict_items.ownsTuple "dict_keyiterator"=false:=by decide
 have nn:¬((Value.ref d==Value.none)=true):=Bool.false_ne_true;unfold pyNext;refine wpAny_bind (wpAny_attempt (wpAny_callSpecial?_slot (name:=Str.ofString "__next__") ty sl (wpAny_call_entry sl ty PySem.F.entry_dict_keyiterator_next ?_ (PySem.F.args_dict_keyiterator_next_1 _))));refine wpAny_bind (wpAny_pure (wpAny_bind (wpAny_bind ?_)))
 first
  | refine wpAny_bind (wpAny_typeNameOfWhole_keyiter ty (wpAny_pure ?_))
  | refine wpAny_bind (wpAny_typeNameOf_keyiter ty (wpAny_pure ?_))
 refine wpAny_bind (wpAny_fieldsOf ho hd ?_);simp only [own,Bool.false_eq_true,if_false];show wpAny _ _ (if(Value.ref d==Value.none)=true then _ else _) _ _ s;rw [if_neg nn];refine wpAny_bind (wpAny_pure (wpAny_bind (wpAny_dictEntries hod hdd ?_)))
 rw [if_neg (by simp)]
 refine wpAny_bind (wpAny_pure (wpAny_bind (wpAny_dictEpoch hod hdd ?_)))
 rw [if_neg (by simp)]
 refine wpAny_pure ?_
 have i0:¬((i:Int) < 0):=by omega
 simp only [i0,if_false,Int.toNat_natCast,Array.getElem?_eq_none hge];refine wpAny_bind ?_
 first
  | refine wpAny_bind (wpAny_typeNameOfWhole_keyiter ty (wpAny_pure ?_))
  | refine wpAny_bind (wpAny_typeNameOf_keyiter ty (wpAny_pure ?_))
 show wpAny _ _ (setField (.ref it) 0 .none >>= _) _ _ s
 refine wpAny_bind (wpAny_setField ho hd (by simp) ?_)
 show wpAny _ _ (newExc (.type "StopIteration") [] >>= _) _ _ _;refine wpAny_bind ?_;simp only [newExc,newTuple]
 refine wpAny_bind (wpAny_newObj_type ?_ (by size_fits))
 refine wpAny_bind (m:=firstArgMember _ _) (wpAny_of_eq (a:=Value.none) (by first | rfl | (simp only [firstArgMember];rfl)) (wpAny_newObj_type ?_ (by size_fits)))
 simp only [raiseNew];refine wpAny_bind (wpAny_handled ?_);rw [show A.in1.handled=none from hh];refine wpAny_bind (wpAny_pure (wpAny_throw ?_));refine wpAny_bind (wpAny_isInstance (T:="StopIteration") (b:=true) ⟨_,Heap.get?_push_size _ rfl,rfl⟩ isSubtype_stop (wpAny_pure (hQ _ ?_)));exact((Heap.SameBut.update ..).extBut.push _).push _
theorem Qgd{d:Addr}{ep:Nat}{od:Obj}{es:Array DictEntry}{Q:Value->Shared->Prop}(hm:(d==sysModules)=false)(ho:s.heap.get? d=some od)(hc:od.ExactDict)(hdd:od.data=.dict es ep)
  (hQ:Q (.ref s.heap.objs.size) { s with heap:=s.heap.push { cls:=.type "dict_keyiterator",data:=.fields #[.ref d,.int 0 0,.int es.size 0,.int ep 0] } }):wpAny (model prog w) A (pyIter (.ref d)) Q E s:=by
 have hT:s.TypeIs (.ref d) "dict":=⟨od,ho,hc.1⟩;have sl:=PySem.F.slot_dict_iter;refine wpAny_pyIter_slot hT sl (wpAny_call_entry sl hT PySem.F.entry_dict_iter ?_ (PySem.F.args_dict_iter_1 _));unfold Builtin.«dict.__iter__» Builtin.Dict.dictSlotNone;refine wpAny_bind (wpAny_bind (wpAny_notOrdered_dict hT ?_));show wpAny _ _ (pure (Value.ref d)) _ _ s;refine wpAny_pure ?_;show wpAny _ _ (Builtin.Dict.showsAll d >>= _) _ _ s;unfold Builtin.Dict.showsAll
 rw [if_neg (by rw [hm];exact Bool.false_ne_true)]
 refine wpAny_bind (wpAny_pure (wpAny_bind (wpAny_dictEntries ho hdd (wpAny_bind (wpAny_dictEpoch ho hdd ?_)))));have nxt:=PySem.F.slot_dict_keyiterator_next.lookup;refine wpAny_bind (wpAny_newObj_type (wpAny_pure ⟨_,rfl,"dict_keyiterator",_,⟨_,Heap.get?_push_size _ rfl,rfl⟩,nxt,?_⟩));simpa [rawInt]using hQ
end
section
variable {X:Cx}{pins:List (Addr×Obj)}{σ:St}{H:Hp}{s:Shared}{d:Addr}
theorem Inv.freezeT{kv:List (List Key×V)}(I:Inv X pins σ H s)(h:H d=some (.dT kv)):∃o es ep,s.heap.get? d=some o/\o.ExactDict/\o.data=.dict es ep/\es.size=kv.length/\Inv X pins σ (upd H d (.frz o (.dT kv))) s:=by
 obtain⟨hz,hm,xs,r,o,es,ep,e,c,dt,rr,nd⟩:=(show ObjOk X.prog X.w H s.heap d (.dT kv)from I.hok d _ h)
 have ls:es.size=kv.length:=by
  have:=congrArg List.length rr;rw [List.length_map,<-Paired.length r]at this;simpa using this
 refine⟨o,es,ep,e,c,dt,ls,?_⟩
 have ne:∀b ys,H b=some (.tup ys)->b≠d:=fun b ys q z=>by rw [z,h]at q;cases q
 have:=I.write (x:=d) (e:=d) (o:=.frz o (.dT kv)) (h':=s.heap) (t':=s.toks) (by rw [h];trivial) (.inl rfl) (fun b u _ q=>q) ⟨o,e⟩ ⟨e,hz,hm,xs,Paired.imp' (fun p q ⟨a1,a2,a3⟩=>⟨a1,by rw [Qe (ne _ _ a2)];exact a2,a3⟩) r,o,es,ep,e,c,dt,rr,nd⟩
 exact this
theorem Inv.thawT{o:Obj}{kv:List (List Key×V)}(I:Inv X pins σ H s)(h:H d=some (.frz o (.dT kv)))(h0:∀o' u',X.H₀ d≠some (.frz o' u')):Inv X pins σ (upd H d (.dT kv)) s:=by
 have ne:∀{b:Addr},H b=none->b≠d:=fun q z=>by rw [z,h]at q;cases q
 refine⟨I.ok,I.os,I.bare,⟨I.base.keep,I.base.slot,fun b ob q n hx=>?_,I.base.there,fun b xs q=>?_,fun b ob u q=>?_,fun b ps q=>?_⟩,I.loc,I.cell,?_,fun x c e=>?_,fun p hp=>?_,fun b u q=>?_,I.len⟩
 ·have:=I.base.free b ob q n hx;rw [Qe (ne this)];exact this
 ·have:=I.base.tups b xs q
  rw [Qe (fun z=>by rw [z,h]at this;cases this)]
  exact this
 ·have:=I.base.frzs b ob u q
  rw [Qe (fun z=>by subst z;exact h0 _ _ q)]
  exact this
 ·obtain⟨more,e⟩:=I.base.tbls b ps q;refine⟨more,?_⟩
  rw [Qe (fun z=>by rw [z,h]at e;cases e)]
  exact e
 ·rw [Qe (ne I.free)];exact I.free
 ·rw [Qe (ne (I.freeC x c e))];exact I.freeC x c e
 ·obtain⟨a1,a2,a3⟩:=I.pin p hp
  exact⟨a1,by rw [Qe (ne a2)];exact a2,a3⟩
 ·by_cases hb:b=d
  ·subst hb;rw [Qf]at q;cases q;obtain⟨_,ok⟩:=I.hok b _ h;refine ok.stay (fun c v _ r=>r) (fun c r=>?_) fun c xs r=>?_
   ·rw [Qe (fun z=>by rw [z,h]at r;cases r)];exact r
   ·rw [Qe (fun z=>by rw [z,h]at r;cases r)];exact r
  ·rw [Qe hb]at q;refine(I.hok b u q).stay (fun c v _ r=>r) (fun c r=>?_) fun c xs r=>?_
   ·rw [Qe (fun z=>by rw [z,h]at r;cases r)];exact r
   ·rw [Qe (fun z=>by rw [z,h]at r;cases r)];exact r
end
noncomputable def QjB(a:Addr)(o:Obj)(kv:List (List Key×V)):It :=
 ⟨fun i H=>H a=some (.frz o (.dT kv))/\i<kv.length,fun i H x H'=>H'=H/\∃p b,kv[i]?=some p/\x=.ref b/\H b=some (.tup (p.1.map kV)),fun i H=>H a=some (.frz o (.dT kv))/\kv.length<=i⟩
theorem Qg8{F:List Key×V->List Key×Addr×Value->Prop}:∀{kv:List (List Key×V)} {xs:List (List Key×Addr×Value)} {i:Nat} {p:List Key×V} {q:List Key×Addr×Value},Paired F kv xs->kv[i]?=some p->xs[i]?=some q->F p q
 | _,_,i,p,q,.nil,h1,h2=>by simp at h1
 | _,_,0,p,q,.cons r t,h1,h2=>by
  simp at h1 h2;subst h1 h2;exact r
 | _,_,i+1,p,q,.cons r t,h1,h2=>Qg8 (i:=i) t (by simpa using h1) (by simpa using h2)
theorem Qct{P:Program}{w:World}{K:PySem.W.Frag}{tg:Expr}(a it:Addr)(o:Obj)(kv:List (List Key×V))(es:Array DictEntry)(ep:Nat)(hd:o.data=.dict es ep)(ls:es.size=kv.length):
  Turn P w K tg (QjB a o kv) [it] it (fun i h=>h.IsKeyIter it a i es.size ep) where
 mem:=by simp
 obj:=fun i h st b hb=>by
  have e:b=it:=by simpa using hb
  subst e;obtain⟨o,e,c,d⟩:=st
  exact⟨o,e,fun v z=>by rw [d]at z;cases z⟩
 keep:=fun i h h' st k=>by
  obtain⟨o,e,r⟩:=st
  exact⟨o,k it (by simp) o e,r⟩
 item:=by
  intro X hP hw hK hc i pins s σ H E I hf st hg;subst hP hw hK
  obtain⟨f0,f1,f2,f3,f4,f5⟩:=hf it (by simp)
  obtain⟨hg,hi⟩:=hg;obtain⟨eo,hz,hm,xs,rr,o',es',ep',e',c',dt',r',nd⟩:=I.hok a _ hg;rw [eo]at e';cases e';rw [hd]at dt';cases dt';have hl:=Paired.length rr
  have hi':i<xs.length:=by omega
  have lt:i<es.size:=by omega
  refine Qf7 st eo hd lt fun h' hit sb=>?_;have I1:Inv X pins σ H { s with heap:=h' }:=I.turned (t':=s.toks) (fun b o hb e=>(sb.2 b hb).trans e) f0 f1 f3 f4 f5;obtain⟨oi,e,c,dd⟩:=id hit;obtain⟨k1,k2,k3⟩:=Qg8 rr (List.getElem?_eq_getElem hi) (List.getElem?_eq_getElem hi')
  have ek:es[i].key=.ref xs[i].2.1:=by
   have z:es.toList[i]?=(xs.map (entryOfKey (tupleKind (Qq X.prog X.w))))[i]?:=by rw [r']
   rw [List.getElem?_map,List.getElem?_eq_getElem hi',List.getElem?_eq_getElem (by simpa using lt)]at z
   have:=congrArg DictEntry.key (Option.some.inj z)
   have y:es[i].key=(entryOfKey (tupleKind (Qq X.prog X.w)) xs[i]).key:=by simpa using this
   exact y.trans rfl
  refine⟨es[i].key,rfl,Qbb (s:={ s with heap:=h' }) e c dd (by decide) ⟨.ref xs[i].2.1,H,I1,by rw [ek];rfl,⟨rfl,kv[i],xs[i].2.1,List.getElem?_eq_getElem hi,rfl,k2⟩,hit,fun b hb=>(hf b hb).1⟩⟩
 done:=by
  intro X hP hw hK hc i pins s σ H E I hf st hg;subst hP hw hK
  obtain⟨f0,f1,f2,f3,f4,f5⟩:=hf it (by simp)
  obtain⟨hg,hi⟩:=hg;obtain⟨eo,_⟩:=I.hok a _ hg
  exact Qi3 (I.ok.hd hc) st eo hd (by omega) fun h' eb=>⟨rfl,I.turned (t':=s.toks) (fun b o hb e=>eb b o hb e) f0 f1 f3 f4 f5⟩
 self:=fun _ _ _ _ _ st h=>wpAny_pyIter_keyiter st h
section
variable {X:Cx}
noncomputable def Qlr(te:TE):TI:=fun σ H R=>te σ H fun x H1=>∃a kv,x=.ref a/\H1 a=some (.dT kv)/\∀o,R (QjB a o kv) (upd H1 a (.frz o (.dT kv)))
theorem QfX{tg e:Expr}{te:TE}(he:PE X e te):PI X tg e (Qlr te):=by
 intro pins s σ H R I h;refine thn (he pins s σ H _ I h) fun u s1 ⟨x,H1,I1,rx,q1⟩=>?_;obtain⟨a,kv,rfl,hk,q⟩:=q1;cases rx;have hm:(a==sysModules)=false:=(show ObjOk X.prog X.w H1 s1.heap a (.dT kv)from I1.hok a _ hk).2.1;obtain⟨o,es,ep,eo,hc,hd,ls,I2⟩:=I1.freezeT hk;refine Qgd hm eo hc hd ?_;refine⟨s1.heap.objs.size,[s1.heap.objs.size],_,QjB a o kv,_,rfl,I2.kept (t':=s1.toks) fun b o e=>Heap.get?_push_of_some _ e,Qct a _ o kv es ep hd ls,⟨_,Heap.get?_push_size _ rfl,rfl,rfl⟩,fun b hb=>?_,q o⟩
 have e:b=s1.heap.objs.size:=by simpa using hb
 subst e;exact I2.fpOk (Nat.le_refl _) (I2.hok.fresh (Nat.le_refl _))
noncomputable def QbA(d:Addr)(P:Hp->Prop)(H':Hp):Prop:=∃o kv,H' d=some (.frz o (.dT kv))/\P (upd H' d (.dT kv))
noncomputable def Qkl(ts:TS):TS:=fun D σ H=>∃d kv,H d=some (.dT kv)/\ts ⟨fun σ'=>QbA d (D.nx σ'),fun v=>QbA d (D.rt v),fun σ'=>QbA d (D.bk σ'),fun σ'=>QbA d (D.ct σ')⟩ σ H
theorem QfS{st:Stmt}{ts:TS}(h:PS X st ts):PS X st (Qkl ts):=by
 intro pins s σ H D I q;obtain⟨d,kv,hk,q⟩:=q
 have h0:∀o' u',X.H₀ d≠some (.frz o' u'):=fun o' u' z=>by
  have:=I.base.frzs d o' u' z;rw [hk]at this;cases this
 refine thn (h pins s σ H _ I q) fun f s' hf=>?_
 cases f with
 | next=>obtain⟨σ',H',I',o,kv',e,p⟩:=hf;exact⟨σ',_,I'.thawT e h0,p⟩
 | brk=>obtain⟨σ',H',I',o,kv',e,p⟩:=hf;exact⟨σ',_,I'.thawT e h0,p⟩
 | cont=>obtain⟨σ',H',I',o,kv',e,p⟩:=hf;exact⟨σ',_,I'.thawT e h0,p⟩
 | ret u=>obtain⟨v,σ',H',I',rv,o,kv',e,p⟩:=hf;exact⟨v,σ',_,I'.thawT e h0,rv,p⟩
end
end L2
namespace L2
open PySem PySem.Spec PyProof.Rows
section
variable {prog:Program}{w:World}{A:Around}{E:Value->Shared->Prop}{s:Shared}
theorem JA{d:Addr}(hd:(d==sysModules)=false):
  MeetsIn prog w (Builtin.«dict.__len__» ⟨[.ref d],[]⟩) (fun _ R s=>∃od es ep,s.heap.get? d=some od/\od.data=.dict es ep/\R (.ok (.ret (.int es.size s.toks))) { s with toks:=s.toks+1 }):=
 .of_wp fun A R s ⟨od,es,ep,ho,hdat,h⟩=>by
  show wpAny _ _ (dictSize d >>= _) _ _ s;unfold dictSize;refine wpAny_bind (wpAny_bind (wpAny_dictEntries ho hdat (wpAny_pure ?_)));show wpAny _ _ (Builtin.Dict.pendingCount d >>= _) _ _ s;refine wpAny_bind (wpAny_pendingCount_other hd (wpAny_ret_mkInt ?_));rw [Nat.add_zero];exact h
theorem QiL{d:Addr}{od:Obj}{es:Array DictEntry}{ep:Nat}{Q:Value->Shared->Prop}(hd:(d==sysModules)=false)(ho:s.heap.get? d=some od)(hc:od.ExactDict)(hdat:od.data=.dict es ep)(hfit:(es.size:Int) < 2 ^ 63)
  (h:Q (.int es.size (s.toks+1)) { s with toks:=s.toks+1+1 }):wpAny (model prog w) A (call (.builtin "len") [.ref d]) Q E s:=by
 have hT:s.TypeIs (.ref d) "dict":=⟨od,ho,hc.1⟩;have sl:=PySem.F.slot_dict_len;refine Calls.call_function_entry kind_len plain_len entry_len (args_len1 _) ?_;unfold Builtin.«len»;refine wpAny_bind (m:=oneArg "len" _) (wpAny_pure (wpAny_bind (m:=callSpecial? (.ref d) (Str.ofString "__len__")) ?_));refine wpAny_callSpecial?_slot (name:=Str.ofString "__len__") hT sl (call_meetsIn sl hT PySem.F.entry_dict_len (PySem.F.args_dict_len_1 _) (JA hd) ⟨od,es,ep,ho,hdat,?_⟩);show wpAny _ _ _ _ _ { s with toks:=s.toks+1 };refine wpAny_bind (wpAny_holding (wpAny_pure (wpAny_bind (wpAny_letGo ?_))));show wpAny _ _ (if((es.size:Nat):Int) < 0 then _ else _) _ _ _
 rw [if_neg (by omega)]
 show wpAny _ _ (if((es.size:Nat):Int)≥2 ^ 63 then _ else _) _ _ _
 rw [if_neg (by omega)]
 exact wpAny_bind (wpAny_mkInt (wpAny_pure ⟨_,rfl,h⟩))
end
theorem QeY {X : Cx} : CallR X (.builtin "len") (fun xs H Q => ∃ a kvs, xs = [V.ref a] /\ H a = some (.dT kvs) /\ Q (.int kvs.length) H) := by
 intro pins s σ H xs us Q I r h;obtain⟨a,kvs,rfl,ha,q⟩:=h;obtain⟨u,rfl,ru⟩:=QaN r;cases ru;obtain⟨hz,hm,ys,rr,o,es,ep,e,c,dt,r',nd⟩:=(show ObjOk X.prog X.w H s.heap a (.dT kvs)from I.hok a _ ha)
 have ls:es.size=kvs.length:=by
  have:=congrArg List.length r';rw [List.length_map,<-Paired.length rr]at this;simpa using this
 refine QiL hm e c dt (by rw [ls];rw [sizeLine_eq]at hz;omega) ⟨.int kvs.length,H,?_,⟨_,by rw [ls]⟩,q⟩
 exact I.tok _
end L2
namespace Iv
open PySem
inductive U where
 | non | bl (b:Bool) | int (i:Int) (m:Nat) | str (x:List Nat) | ref (n:Nat) | con (k:Nat) | scr
 deriving DecidableEq,Inhabited
inductive O where
 | lst (xs:List U) | tup (xs:List U) | ins (C:Nat) (fs:List (Nat×U)) | dic (kvs:List (U×U)) | dct (kvs:List (List U×U)) | fzd (kvs:List (U×U)) | fzt (kvs:List (List U×U)) | err (c:Nat)
 deriving DecidableEq,Inhabited
noncomputable abbrev Hs:=List O
noncomputable abbrev Rho:=List (Option U)
inductive Bi where
 | len | int | str | tuple | list | sum | any | all | max | min | abs | sorted | dict
 deriving DecidableEq,Inhabited
inductive Bm where
 | append | pop | clear | reverse | extend | setdef | get | update | join | split | find | insert | index
 deriving DecidableEq,Inhabited
inductive Ty where
 | non | bool | int | str | list | tuple | dict | cls (c:Nat) | vale
 deriving DecidableEq,Inhabited
mutual
inductive E where
 | c (u:U) | var (i:Nat) | con (k:Nat)
 | op (o:Operator) (a b:E) | neg (a:E) | cmp (o:CmpOp) (a b:E)
 | and (a b:E) | or (a b:E) | not (a:E) | ife (t a b:E)
 | tup (es:List E) | lst (es:List E) | dis (kvs:List (U×U)) (b:E)
 | ix (a b:E) | tab (k:Nat) (b:E) | sl (a:E) (lo hi:Option E) | rev (a:E) | tupR (es:List E)
 | fld (a:E) (f:Nat)
 | call (f:Nat) (es:List E) | meth (m:Nat) (o:E) (es:List E) | make (k:Nat) (es:List E)
 | bi (b:Bi) (es:List E) | isi (a:E) (t:Ty) | bm (b:Bm) (o:E) (es:List E)
 | comp (s:Src) (b:Bool) (t:Option E) (el:E) | dnew | dnewT | zap (e:E) | dsp (ks:List U) (es:List E) | chain (o o':CmpOp) (a b c:E)
inductive Src where
 | seq (e:E) | rng (a:E) | rng2 (a b:E) | rngA (es:List E) | zip (a b:E) | revd (e:E) | enm (e:E)
inductive Tg where
 | name (i:Nat) | pair (i j:Nat)
end
inductive S where
 | pass | expr (e:E) | set (i:Nat) (e:E) | fld (o:E) (f:Nat) (e:E) | ret (e:E) | retN
 | ite (t:E) (a b:List S) | loop (t:Tg) (s:Src) (body:List S) | loopC (i:Nat) (e:E) (body:List S) | loopK (i:Nat) (e:E) (body:List S) | loopD (i:Nat) (e:E) (body:List S) | while (t:E) (body:List S)
 | brk | cont
 | aug (i:Nat) (o:Operator) (e:E) | bad
 | put (o i e:E) | unp (i j:Nat) (e:E) | par (i j:Nat) (a b:E)
 | rse (c:Nat) (es:List E) | tryE (i j f:Nat) (es:List E) (c:Nat) | cal (n:S) (f:Nat) (es:List E)
inductive Fl where
 | next | brk | cont | ret (u:U)
structure Fn where
 name:Str
 qual:Str
 st:Stmt
 ps:List Str
 N:List Str
 np:Nat
 nN:Nat
 lc:Bool
 body:List S
structure Cl where
 name:Str
 init:Option Nat
 meths:List (Nat×Nat)
 subs:List Nat
inductive Co where
 | tup (xs:List U) | lst (xs:List U) | tab (kvs:List (U×U))
 deriving Inhabited
structure Df where
 ps:List Str
 np:Nat
 last:Str
 ds:List U
structure Tbl where
 fns:List Fn
 cls:List Cl
 cons:List Co
 fns':List Str
 mns:List Str
 scr:List U
 isi:List ((Ty×Ty)×Bool)
 dfl:List (Nat×Df)
 dts:List Str:=[]
 zps:List Str:=[]
 ld:Bool:=false
 ers:List Nat:=[]
 esb:List (Nat×Nat):=[]
 pss:List Nat:=[]
 xf:Nat->List U->Hs->Option (Nat×Hs):=fun _ _ _=>none
noncomputable def bd{α β:Type}(o:Option (α×Hs))(f:α->Hs->Option β):Option β:=match o with
 | none=>none
 | some (a,h)=>f a h
theorem Qd{α β:Type}{o:Option (α×Hs)}{f:α->Hs->Option β}{r:β}(h:bd o f=some r):∃a h',o=some (a,h')/\f a h'=some r:=by
 unfold bd at h
 cases o with
 | none=>cases h
 | some p=>exact⟨p.1,p.2,rfl,h⟩
noncomputable def gz:Nat->Nat->Nat
 | 0,n=>n
 | m+1,n=>Nat.gcd (m+1) n
noncomputable def Qp(i:Int):Bool:=decide (-(2 ^ 64) < i)&&decide (i<2 ^ 64)
noncomputable def Qe8(i:Int):Bool:=decide (i.natAbs<2 ^ 4096)
noncomputable def QhI:U->U->Option U
 | .int i m,.int j n=>some (.int (i-j) (gz m n))
 | _,_=>none
noncomputable def Qld:U->U->Option U
 | .int i 0,.int j 0=>if Qp i||Qp j||(Qe8 i&&Qe8 j)then some (.int (i*j) 0)else none
 | .int i (m+1),.int j 0=>if Qp j then some (.int (i*j) ((m+1)*j.natAbs))else none
 | _,_=>none
noncomputable def Qcf:U->U->Option U
 | .int i 0,.int j 0=>if 0<j&&decide (j<1606938044258990275541962092341162602522202993782792835301376)then some (.int (i / j) 0)else none
 | .int i (m+1),.int j 0=>if 0<j&&decide (j<1606938044258990275541962092341162602522202993782792835301376)&&decide ((m+1) % j.toNat=0)then some (.int (i / j) ((m+1) / j.toNat))else none
 | _,_=>none
noncomputable def Qle:U->U->Option U
 | .int i 0,.int j 0=>if 0<j then some (.int (i % j) 0)else none
 | .int i (m+1),.int j 0=>if 0<j&&decide ((m+1) % j.toNat=0)then some (.int (i % j) 0)else none
 | _,_=>none
noncomputable def Qoy:U->U->Option U
 | .int i 0,.int j 0=>if 0<=j&&decide (j<=1000)&&Qp i then some (.int (i ^ j.toNat) 0)else none
 | _,_=>none
noncomputable def Qme(a b:Nat)(x y:O)(hs:Hs):Option (U×Hs):=match x,y with
 | .lst xs,.lst ys=>if xs.length+ys.length<=1000000 then some (.ref hs.length,hs++[.lst (xs++ys)])else none
 | .tup xs,.tup ys=>if xs.isEmpty then some (.ref b,hs)else if xs.length+ys.length<=1000000 then(if ys.isEmpty then some (.ref a,hs)else some (.ref hs.length,hs++[.tup (xs++ys)]))else none
 | _,_=>none
noncomputable def Qc0(u w:U)(hs:Hs):Option (U×Hs):=match u,w with
 | .int i m,.int j n=>some (.int (i+j) (gz m n),hs)
 | .str x,.str y=>if x.length+y.length<=1000000 then some (.str (x++y),hs)else none
 | .ref a,.ref b=>match hs[a]?,hs[b]? with
  | some x,some y=>Qme a b x y hs
  | _,_=>none
 | _,_=>none
noncomputable def Qoo(a:Nat)(w:U)(hs:Hs):Option (U×Hs):=match hs[a]?,w with
 | some (.lst xs),.int k 0=>if -9223372036854775808<=k/\k<9223372036854775808/\xs.length*k.toNat<=1000000 then some (.ref hs.length,hs++[.lst (List.replicate k.toNat xs).flatten])else none
 | _,_=>none
noncomputable def opU(o:Operator)(u w:U)(hs:Hs):Option (U×Hs):=match o with
 | .Add=>Qc0 u w hs
 | .Sub=>(QhI u w).map fun r=>(r,hs)
 | .Mult=>(match u with
  | .ref a=>Qoo a w hs
  | u=>(Qld u w).map fun r=>(r,hs))
 | .FloorDiv=>(Qcf u w).map fun r=>(r,hs)
 | .Mod=>(Qle u w).map fun r=>(r,hs)
 | .Pow=>(Qoy u w).map fun r=>(r,hs)
 | _=>none
noncomputable def eqS:U->U->Option Bool
 | .int i 0,.int j 0=>some (decide (i=j))
 | .str x,.str y=>some (decide (x=y))
 | .bl a,.bl b=>some (decide (a=b))
 | .non,.non=>some true
 | .non,.int _ _=>some false | .int _ _,.non=>some false | .non,.bl _=>some false | .bl _,.non=>some false | .non,.str _=>some false | .str _,.non=>some false
 | .int _ _,.str _=>some false | .str _,.int _ _=>some false | .bl _,.str _=>some false | .str _,.bl _=>some false
 | _,_=>none
noncomputable def ZN(T:Tbl)(u:U)(hs:Hs):Option (List U):=match u with
 | .ref n=>match hs[n]? with
  | some (.lst xs)=>some xs
  | some (.tup xs)=>some xs
  | _=>none
 | .con k=>match T.cons[k]? with
  | some (.lst xs)=>some xs
  | some (.tup xs)=>some xs
  | _=>none
 | .scr=>some T.scr
 | _=>none
noncomputable def Qbe:U->Bool
 | .int _ 0=>true
 | .str _=>true
 | .non=>true
 | _=>false
noncomputable def eqF:U->U->Bool
 | .int i _,.int j _=>decide (i=j)
 | .str x,.str y=>decide (x=y)
 | .non,.non=>true
 | _,_=>false
noncomputable def inU(x:U)(ys:List U):Option Bool:=if Qbe x&&ys.all Qbe then some (ys.any fun y=>eqF y x)else none
noncomputable def QA(T:Tbl)(u:U)(hs:Hs):Option (List U):=match u with
 | .ref n=>match hs[n]? with
  | some (.lst xs)=>some xs
  | _=>none
 | .con k=>match T.cons[k]? with
  | some (.lst xs)=>some xs
  | _=>none
 | .scr=>some T.scr
 | _=>none
noncomputable def Ym(T:Tbl)(u:U)(hs:Hs):Option (List U):=match u with
 | .ref n=>match hs[n]? with
  | some (.tup xs)=>some xs
  | _=>none
 | .con k=>match T.cons[k]? with
  | some (.tup xs)=>some xs
  | _=>none
 | _=>none
noncomputable def okW(T:Tbl):Nat->U->Hs->Bool
 | 0,_,_=>false
 | n+1,u,hs=>match QA T u hs with
  | some xs=>xs.all fun x=>okW T n x hs
  | none=>match Ym T u hs with
   | some xs=>xs.all fun x=>okW T n x hs
   | none=>match u with
    | .non=>true
    | .bl _=>true
    | .int _ m=>m==0
    | .str x=>x.all fun c=>decide (c<128)
    | _=>false
noncomputable def eqB:U->U->Bool
 | .non,.non=>true
 | .bl a,.bl b=>a==b
 | .bl a,.int j _=>(if a then 1 else 0)==j
 | .int i _,.bl b=>i==(if b then 1 else 0)
 | .int i _,.int j _=>i==j
 | .str x,.str y=>x==y
 | _,_=>false
noncomputable def eqW(T:Tbl):Nat->U->U->Hs->Bool
 | 0,_,_,_=>false
 | n+1,u,w,hs=>match QA T u hs with
  | some xs=>(match QA T w hs with
   | some ys=>(xs.length==ys.length)&&(xs.zip ys).all fun p=>eqW T n p.1 p.2 hs
   | none=>false)
  | none=>match Ym T u hs with
   | some xs=>(match QA T w hs with
    | some _=>false
    | none=>match Ym T w hs with
     | some ys=>(xs.length==ys.length)&&(xs.zip ys).all fun p=>eqW T n p.1 p.2 hs
     | none=>false)
   | none=>(match QA T w hs with
    | some _=>false
    | none=>match Ym T w hs with
     | some _=>false
     | none=>eqB u w)
noncomputable def Y5(T:Tbl)(u w:U)(hs:Hs):Bool:=match QA T u hs,QA T w hs with
 | some xs,some ys=>decide (xs.length≠ys.length)
 | _,_=>false
noncomputable def QaT(T:Tbl)(u w:U)(hs:Hs):Bool:=match QA T u hs,QA T w hs with
 | some xs,some ys=>decide (xs=ys)&&xs.all fun x=>match x with | .ref _=>true | _=>false
 | _,_=>false
noncomputable def eqA(T:Tbl)(u w:U)(hs:Hs):Option Bool:=match eqS u w with
 | some b=>some b
 | none=>if Y5 T u w hs=true then some false else if QaT T u w hs=true then some true else if okW T 20 u hs&&okW T 20 w hs then some (eqW T 20 u w hs)else none
noncomputable def Zr(kvs:List (U×U))(k:U):Option U:=match kvs with
 | []=>none
 | (x,v)::r=>if x=k then some v else Zr r k
noncomputable def Y6:U->Bool
 | .int _ 0=>true
 | .str _=>true
 | _=>false
noncomputable def QF{κ:Type}[DecidableEq κ](kvs:List (κ×U))(k:κ):Option U:=(kvs.find? fun p=>decide (p.1=k)).map (·.2)
noncomputable def ZJ{κ:Type}[DecidableEq κ](kvs:List (κ×U))(k:κ)(v:U):List (κ×U):=if(kvs.any fun p=>decide (p.1=k))=true then kvs.map (fun p=>if p.1=k then(p.1,v)else p)else kvs++[(k,v)]
noncomputable def tkU(w:U)(hs:Hs):Option (List U):=match w with
 | .ref m=>(match hs[m]? with
  | some (.tup ks)=>if ks.all Y6=true then some ks else none
  | _=>none)
 | _=>none
noncomputable def ZL(o:O)(w:U)(hs:Hs):Option (Option U):=match o with
 | .dic kvs=>if Y6 w=true then some (QF kvs w)else none
 | .fzd kvs=>if Y6 w=true then some (QF kvs w)else none
 | .dct kvs=>(tkU w hs).map fun k=>QF kvs k
 | .fzt kvs=>(tkU w hs).map fun k=>QF kvs k
 | _=>none
noncomputable def Qbh(n:Nat)(o:O)(k u:U)(hs:Hs):Option Hs:=match o with
 | .dic kvs=>if Y6 k=true/\kvs.length<1000000 then some (hs.set n (.dic (ZJ kvs k u)))else none
 | .dct kvs=>if kvs.length<1000000 then(tkU k hs).map fun t=>hs.set n (.dct (ZJ kvs t u))else none
 | _=>none
noncomputable def ZG(kvs more:List (U×U)):List (U×U):=more.foldl (fun acc p=>ZJ acc p.1 p.2) kvs
noncomputable def inS(x y:List Nat):Bool:=!(Builtin.Str.occurrences ⟨y.toArray⟩ ⟨x.toArray⟩ 0 (Str.length ⟨y.toArray⟩) 1).isEmpty
noncomputable def Ql5(T:Tbl)(w u:U):Option Bool:=match w with
 | .con k=>(match T.cons[k]? with
  | some (.tab kvs)=>if Y6 u=true then some (Zr kvs u).isSome else none
  | _=>none)
 | .str y=>(match u with
  | .str x=>some (inS x y)
  | _=>none)
 | _=>none
noncomputable def inD(T:Tbl)(w u:U)(hs:Hs):Option Bool:=match w with
 | .ref n=>(match hs[n]? with
  | some o=>(ZL o u hs).map Option.isSome
  | none=>none)
 | w=>Ql5 T w u
noncomputable def Zn(T:Tbl)(o:CmpOp)(u w:U)(hs:Hs):Option Bool:=match o with
 | .Eq=>eqA T u w hs
 | .NotEq=>(eqA T u w hs).map (!·)
 | .Lt=>match u,w with | .int i 0,.int j 0=>some (decide (i<j)) | _,_=>none
 | .LtE=>match u,w with | .int i 0,.int j 0=>some (decide (i<=j)) | _,_=>none
 | .Gt=>match u,w with | .int i 0,.int j 0=>some (decide (j<i)) | _,_=>none
 | .GtE=>match u,w with | .int i 0,.int j 0=>some (decide (j<=i)) | _,_=>none
 | .In=>match ZN T w hs with | some xs=>inU u xs | none=>inD T w u hs
 | .NotIn=>match ZN T w hs with | some xs=>(inU u xs).map (!·) | none=>(inD T w u hs).map (!·)
 | .Is=>match w with | .non=>some (decide (u=.non)) | _=>none
 | .IsNot=>match w with | .non=>some (!decide (u=.non)) | _=>none
noncomputable def Zj(T:Tbl)(u:U)(hs:Hs):Option Bool:=match u with
 | .non=>some false
 | .bl b=>some b
 | .int i 0=>some (decide (i≠0))
 | .str x=>if x.length<=1000000 then some (!x.isEmpty)else none
 | u=>(ZN T u hs).map fun xs=>!xs.isEmpty
noncomputable def ixU(n:Nat)(i:Int):Option Nat:=if 0<=i then(if i<n then some i.toNat else none)else if -(n:Int)<=i then some (i+n).toNat else none
noncomputable def atU{α:Type}(xs:List α)(i:Int):Option α:=match ixU xs.length i with
 | some j=>xs[j]?
 | none=>none
noncomputable def QH(T:Tbl)(u w:U)(hs:Hs):Option U:=match u,w with
 | .str x,.int i 0=>if x.length<=1000000 then(atU x i).map fun c=>.str [c]else none
 | .ref n,w=>match hs[n]?,w with
  | some (.lst xs),.int i 0=>atU xs i
  | some (.tup xs),.int i 0=>atU xs i
  | some o,w=>(ZL o w hs).bind id
  | none,_=>none
 | u,.int i 0=>match ZN T u hs with
  | some xs=>atU xs i
  | none=>none
 | _,_=>none
noncomputable def Qoh(T:Tbl)(k:Nat)(w:U):Option U:=match T.cons[k]? with
 | some (.tab kvs)=>if Y6 w then Zr kvs w else none
 | _=>none
noncomputable def Zm(n d:Nat):Option Int->Nat
 | none=>d
 | some v=>if v<0 then(v+(n:Int)).toNat else min v.toNat n
noncomputable def Zi{α:Type}(xs:List α)(lo hi:Option Int):List α:=(xs.drop (Zm xs.length 0 lo)).take (Zm xs.length xs.length hi-Zm xs.length 0 lo)
noncomputable def slU(T:Tbl)(u:U)(lo hi:Option Int)(hs:Hs):Option (U×Hs):=match u with
 | .scr=>some (.ref hs.length,hs++[.lst (Zi T.scr lo hi)])
 | .ref n=>match hs[n]? with
  | some (.lst xs)=>some (.ref hs.length,hs++[.lst (Zi xs lo hi)])
  | some (.tup xs)=>if Zm xs.length 0 lo=0/\Zm xs.length xs.length hi=xs.length then none else some (.ref hs.length,hs++[.tup (Zi xs lo hi)])
  | _=>none
 | .str x=>if x.length<=1000000 then some (.str (Zi x lo hi),hs)else none
 | _=>none
noncomputable def Qpu(n:Nat):List Nat:=(Nat.toDigits 10 n).map Char.toNat
noncomputable def Qpv(x:List Nat):Bool:=x.all (fun c=>decide (48<=c)&&decide (c<=57))&&!x.isEmpty&&decide (x.length<=640)
noncomputable def QnP(x:List Nat):Nat:=x.foldl (fun acc c=>acc*10+(c-48)) 0
noncomputable def Qau:List U->Option (List Int)
 | []=>some []
 | .int i 0::r=>(Qau r).map (i::·)
 | _=>none
noncomputable def Qfk:List Int->Int->Int
 | [],z=>z
 | a::r,z=>Qfk r (if a>z then a else z)
noncomputable def Qnm:List Int->Option Int
 | []=>none
 | z::r=>some (Qfk r z)
theorem Qd1:∀(r:List Int) (z:Int),z<=Qfk r z/\∀a∈r,a<=Qfk r z
 | [],z=>⟨Int.le_refl _,fun a h=>by cases h⟩
 | a::r,z=>by
  have ih:=Qd1 r (if a>z then a else z);unfold Qfk;refine⟨?_,fun b hb=>?_⟩
  ·have:=ih.1;split at this<;>rename_i c<;>simp only [c,if_true,if_false]<;>omega
  ·rcases List.mem_cons.mp hb with rfl | hb
   ·have:=ih.1;split at this<;>rename_i c<;>simp only [c,if_true,if_false]<;>omega
   ·exact ih.2 b hb
theorem Qb0:∀(r:List Int) (z:Int),Qfk r z=z\/Qfk r z∈r
 | [],z=>.inl rfl
 | a::r,z=>by
  have ih:=Qb0 r (if a>z then a else z);unfold Qfk
  rcases ih with e | m
  ·rw [e];split
   ·exact .inr List.mem_cons_self
   ·exact .inl rfl
  ·exact .inr (List.mem_cons_of_mem _ m)
theorem QiJ{ns:List Int}{m M:Int}(h:Qnm ns=some m)(h1:M∈ns)(h2:∀a∈ns,a<=M):M=m:=by
 cases ns with
 | nil=>cases h
 | cons z r =>
  simp only [Qnm,Option.some.injEq]at h;subst h;have g:=Qd1 r z
  have a:M<=Qfk r z:=by
   rcases List.mem_cons.mp h1 with rfl | hb
   ·exact g.1
   ·exact g.2 M hb
  have b:Qfk r z<=M:=by
   rcases Qb0 r z with e | e
   ·rw [e];exact h2 z List.mem_cons_self
   ·exact h2 _ (List.mem_cons_of_mem _ e)
  omega
noncomputable def itU(hs:Hs)(u:U):Option (List Int):=match u with
 | .ref m=>(match hs[m]? with
  | some (.tup (k::ks))=>Qau (k::ks)
  | _=>none)
 | _=>none
noncomputable def QiT(hs:Hs):List U->Option (List (List Int))
 | []=>some []
 | u::us=>(itU hs u).bind fun k=>(QiT hs us).map fun ks=>k::ks
noncomputable def Qcw(ks:List (List Int))(xs:List U):List U:=(L2.permK ks xs.length).map fun i=>xs.getD i .non
noncomputable def Qjy(hs:Hs):List U->Option (List (List U×U))
 | []=>some []
 | u::r=>match u with
  | .ref p=>(match hs[p]? with
   | some (.tup [k,v])=>(tkU k hs).bind fun t=>(Qjy hs r).map fun l=>(t,v)::l
   | _=>none)
  | _=>none
noncomputable def Qgl(kvs:List (List U×U)):List (List U×U):=kvs.foldl (fun acc p=>ZJ acc p.1 p.2) []
noncomputable def Qd2(u:U)(hs:Hs):Option (List U):=match u with
 | .ref p=>(match hs[p]? with
  | some (.lst xs)=>some xs
  | _=>none)
 | _=>none
noncomputable def biL(T:Tbl)(b:Bi)(us:List U)(hs:Hs):Option (U×Hs):=match b,us with
 | .max,[u]=>(QA T u hs).bind fun xs=>(Qau xs).bind fun ns=>(Qnm ns).map fun m=>(.int m 0,hs)
 | .max,[.int i 0,.int j 0]=>some (.int (if j>i then j else i) 0,hs)
 | .sorted,[u]=>(QA T u hs).bind fun xs=>if xs.length<64 then(if xs.length<2 then some []else QiT hs xs).map fun ks=>(.ref hs.length,hs++[.lst (Qcw ks xs)])else none
 | .dict,[u]=>(Qd2 u hs).bind fun xs=>(Qjy hs xs).map fun kvs=>(.ref hs.length,hs++[.dct (Qgl kvs)])
 | _,_=>none
noncomputable def Qmd(u:U)(hs:Hs):Option (List (List U×U)):=match u with
 | .ref p=>(match hs[p]? with
  | some (.dct kvs)=>some kvs
  | _=>none)
 | _=>none
noncomputable def biU(T:Tbl)(b:Bi)(us:List U)(hs:Hs):Option (U×Hs):=match b,us with
 | .len,[.str x]=>if x.length<=1000000 then some (.int x.length 0,hs)else none
 | .len,[u]=>match ZN T u hs with
  | some xs=>some (.int xs.length 0,hs)
  | none=>(Qmd u hs).map fun kvs=>(.int kvs.length 0,hs)
 | .int,[.int i m]=>some (.int i m,hs)
 | .int,[.bl b]=>some (.int (if b then 1 else 0) 0,hs)
 | .int,[.str x]=>if Qpv x then some (.int (QnP x:Nat) 0,hs)else none
 | .str,[.int i 0]=>if 0<=i&&decide (i.natAbs.log2<1920)then some (.str (Qpu i.toNat),hs)else none
 | .tuple,[.ref n]=>match hs[n]? with
  | some (.lst xs)=>some (.ref hs.length,hs++[.tup xs])
  | some (.tup _)=>some (.ref n,hs)
  | _=>none
 | .list,[u]=>(ZN T u hs).map fun xs=>(.ref hs.length,hs++[.lst xs])
 | .len,_=>none
 | .int,_=>none
 | .str,_=>none
 | .tuple,_=>none
 | .list,_=>none
 | b,us=>biL T b us hs
noncomputable def Qa8(u:U)(hs:Hs):Option Ty:=match u with
 | .non=>some .non
 | .bl _=>some .bool
 | .int _ _=>some .int
 | .str _=>some .str
 | .ref n=>match hs[n]? with
  | some (.lst _)=>some .list
  | some (.tup _)=>some .tuple
  | some (.dic _)=>some .dict
  | some (.dct _)=>some .dict
  | some (.ins c _)=>some (.cls c)
  | some (.err c)=>some (.cls c)
  | _=>none
 | _=>none
noncomputable def Qnt(k t:Ty):Option Bool:=match k,t with
 | .cls _,_=>none
 | _,.cls _=>none
 | .bool,.int=>some true
 | k,t=>some (decide (k=t))
noncomputable def QcZ(T:Tbl)(t:Ty)(u:U)(hs:Hs):Option Bool:=match Qa8 u hs with
 | none=>none
 | some k=>match Qnt k t with
  | some b=>some b
  | none=>T.isi.lookup (k,t)
noncomputable def Qj2:List U->Option (List (List Nat))
 | []=>some []
 | .str x::r=>(Qj2 r).map (x::·)
 | _=>none
noncomputable def QnH(x y:List Nat):Int:=match Builtin.Str.occurrences ⟨x.toArray⟩ ⟨y.toArray⟩ 0 x.length 1 with
 | i::_=>(i:Int)
 | []=>-1
noncomputable def bmL(b:Bm)(n:Nat)(xs:List U)(us:List U)(hs:Hs):Option (U×Hs):=match b,us with
 | .append,[u]=>if xs.length<1000000 then some (.non,hs.set n (.lst (xs++[u])))else none
 | .pop,[]=>match xs[xs.length-1]? with
  | some y=>some (y,hs.set n (.lst xs.dropLast))
  | none=>none
 | .clear,[]=>some (.non,hs.set n (.lst []))
 | .reverse,[]=>some (.non,hs.set n (.lst xs.reverse))
 | .extend,[.ref m]=>(match hs[m]? with
  | some (.lst ys)=>if xs.length+ys.length<=1000000 then some (.non,hs.set n (.lst (xs++ys)))else none
  | _=>none)
 | .insert,[.int i 0,u]=>if i=0/\xs.length<1000000 then some (.non,hs.set n (.lst (u::xs)))else none
 | _,_=>none
noncomputable def bmS(T:Tbl)(b:Bm)(x:List Nat)(us:List U)(hs:Hs):Option (U×Hs):=match b,us with
 | .join,[w]=>match QA T w hs with
  | some ys=>match Qj2 ys with
   | some ts=>if ts.length*x.length+(ts.map List.length).sum<=1000000 then some (.str (Qlm x ts),hs)else none
   | none=>none
  | none=>none
 | .split,[.str [c]]=>if x.length<=1000000 then some (.ref hs.length,hs++[.lst ((Qdo c x).map .str)])else none
 | .find,[.str y]=>some (.int (QnH x y) 0,hs)
 | .index,[.str y]=>(match Builtin.Str.occurrences ⟨x.toArray⟩ ⟨y.toArray⟩ 0 (Str.length ⟨x.toArray⟩) 1 with
  | i::_=>some (.int (i:Int) 0,hs)
  | []=>none)
 | _,_=>none
noncomputable def bmD(b:Bm)(n:Nat)(kvs:List (U×U))(us:List U)(hs:Hs):Option (U×Hs):=match b with
 | .setdef=>(match us with
  | [k,v]=>if Y6 k=true/\kvs.length<1000000 then(match Zr kvs k with
   | some x=>some (x,hs)
   | none=>some (v,hs.set n (.dic (kvs++[(k,v)]))))else none
  | _=>none)
 | .get=>(match us with
  | [k,v]=>if Y6 k=true then some ((QF kvs k).getD v,hs)else none
  | _=>none)
 | .update=>(match us with
  | [.ref m]=>(match hs[m]? with
   | some (.dic more)=>if n≠m/\kvs.length+more.length<=1000000 then some (.non,hs.set n (.dic (ZG kvs more)))else none
   | _=>none)
  | _=>none)
 | _=>none
noncomputable def bmU(T:Tbl)(b:Bm)(o:U)(us:List U)(hs:Hs):Option (U×Hs):=match o with
 | .ref n=>match hs[n]? with
  | some (.lst xs)=>bmL b n xs us hs
  | some (.dic kvs)=>bmD b n kvs us hs
  | _=>none
 | .str x=>bmS T b x us hs
 | _=>none
noncomputable def bL:Bm->Bool
 | .setdef=>false | .get=>false | .update=>false | .join=>false | .split=>false | .find=>false | .index=>false | _=>true
noncomputable def bS:Bm->Bool
 | .join=>true | .split=>true | .find=>true | .index=>true | _=>false
noncomputable def bD:Bm->Bool
 | .setdef=>true | .get=>true | .update=>true | _=>false
noncomputable def QaV(b:Bm)(u:U)(hs:Hs):Bool:=match u with
 | .ref n=>match hs[n]? with
  | some (.lst _)=>bL b
  | some (.dic _)=>bD b
  | _=>false
 | .str _=>bS b
 | _=>false
noncomputable def Qox(f:Nat)(u:U):List (Nat×U)->List (Nat×U)
 | []=>[(f,u)]
 | (g,x)::r=>if g=f then(g,u)::r else(g,x)::Qox f u r
inductive Wk where
 | seqL (u:U) | seqT (u:U) | rng (lo:Int) (n:Nat) | zipB (b c:Bool) (x y:U) | revL (u:U) (n:Nat) | rngC (lo c:Int) (n:Nat) | enmL (u:U) | strW (x:List Nat)
inductive Im where
 | one (u:U) | two (u w:U)
noncomputable def sqU(T:Tbl)(b:Bool)(u:U)(hs:Hs):Option (List U):=if b then QA T u hs else Ym T u hs
noncomputable def two(xs ys:List U)(i:Nat):Option Im:=match xs[i]?,ys[i]? with
 | some x,some y=>some (.two x y)
 | _,_=>none
noncomputable def itm(T:Tbl)(k:Wk)(i:Nat)(hs:Hs):Option (Option Im):=match k with
 | .seqL u=>(QA T u hs).map fun xs=>(xs[i]?).map .one
 | .seqT u=>(Ym T u hs).map fun xs=>(xs[i]?).map .one
 | .rng lo n=>some (if i<n then some (.one (.int (lo+i) 0))else none)
 | .zipB b c x y=>match sqU T b x hs,sqU T c y hs with
  | some xs,some ys=>some (two xs ys i)
  | _,_=>none
 | .revL u n=>match QA T u hs with
  | some xs=>if i<n then(match xs[n-1-i]? with | some x=>some (some (.one x)) | none=>none)else if i=n then some none else none
  | none=>none
 | .rngC lo c n=>some (if i<n then some (.one (.int (lo+i*c) 0))else none)
 | .enmL u=>(QA T u hs).map fun xs=>(xs[i]?).map fun x=>.two (.int i 0) x
 | .strW x=>some ((x[i]?).map fun c=>.one (.str [c]))
noncomputable def QmQ(a b c:Int):Nat:=if a<b then((b-a-1) / c+1).toNat else 0
noncomputable def QZ(T:Tbl)(k:Wk)(hs:Hs):Nat:=match k with
 | .seqL u=>((QA T u hs).getD []).length+1
 | .seqT u=>((Ym T u hs).getD []).length+1
 | .rng _ n=>n+1
 | .zipB b _ x _=>((sqU T b x hs).getD []).length+1
 | .revL _ n=>n+1
 | .rngC _ _ n=>n+1
 | .enmL u=>((QA T u hs).getD []).length+1
 | .strW x=>x.length+1
noncomputable def tgt(t:Tg)(x:Im)(ρ:Rho)(hs:Hs):Option Rho:=match t,x with
 | .name i,.one u=>some (ρ.set i (some u))
 | .pair i j,.two u w=>some ((ρ.set i (some u)).set j (some w))
 | .pair i j,.one (.ref n)=>match hs[n]? with
  | some (.tup [u,w])=>some ((ρ.set i (some u)).set j (some w))
  | _=>none
 | _,_=>none
noncomputable abbrev Cf:=Nat->List U->Hs->Option (U×Hs)
noncomputable abbrev Ev:=E->Rho->Hs->Option (U×Hs)
noncomputable def evs(f:Ev)(ρ:Rho):List E->Hs->Option (List U×Hs)
 | [],hs=>some ([],hs)
 | e::es,hs=>bd (f e ρ hs) fun u h1=>bd (evs f ρ es h1) fun us h2=>some (u::us,h2)
noncomputable def evO(f:Ev)(ρ:Rho):Option E->Hs->Option (Option Int×Hs)
 | none,hs=>some (none,hs)
 | some e,hs=>bd (f e ρ hs) fun u h1=>match u with | .int i 0=>some (some i,h1) | _=>none
noncomputable def wkS(T:Tbl)(u:U)(hs:Hs):Option Wk:=match QA T u hs with
 | some _=>some (.seqL u)
 | none=>match Ym T u hs with
  | some _=>some (.seqT u)
  | none=>match u with
   | .str x=>some (.strW x)
   | _=>none
noncomputable def wkZ(T:Tbl)(u w:U)(hs:Hs):Option Wk :=
 let b:=(QA T u hs).isSome;let c:=(QA T w hs).isSome
 if(sqU T b u hs).isSome&&(sqU T c w hs).isSome then some (.zipB b c u w)else none
noncomputable def Ze(T:Tbl)(f:Ev)(ρ:Rho):Src->Hs->Option (Wk×Hs)
 | .seq e,hs=>bd (f e ρ hs) fun u h1=>(wkS T u h1).map fun k=>(k,h1)
 | .rng a,hs=>bd (f a ρ hs) fun u h1=>match u with | .int i 0=>if Qp (i*4)then some (.rng 0 i.toNat,h1)else none | _=>none
 | .rng2 a b,hs=>bd (f a ρ hs) fun u h1=>bd (f b ρ h1) fun w h2=>match u,w with | .int i 0,.int j 0=>if Qp (i*4)&&Qp (j*4)then some (.rng i (j-i).toNat,h2)else none | _,_=>none
 | .rngA es,hs=>bd (evs f ρ es hs) fun us h1=>match us with
  | [.int i 0,.int j 0,.int c 0]=>if Qp (i*16)&&Qp (j*16)&&decide (0<c)&&decide (c<1073741824)then some (.rngC i c (QmQ i j c),h1)else if Qp (i*16)&&Qp (j*16)&&decide (c=-1)then some (.rngC i (-1) (i-j).toNat,h1)else none
  | _=>none
 | .zip a b,hs=>bd (f a ρ hs) fun u h1=>bd (f b ρ h1) fun w h2=>(wkZ T u w h2).map fun k=>(k,h2)
 | .revd e,hs=>bd (f e ρ hs) fun u h1=>match QA T u h1 with | some xs=>some (.revL u xs.length,h1) | none=>none
 | .enm e,hs=>bd (f e ρ hs) fun u h1=>match QA T u h1 with | some _=>some (.enmL u,h1) | none=>none
noncomputable def Qnn(T:Tbl)(cf:Cf)(c:Nat)(us:List U)(hs:Hs):Option (U×Hs):=match T.cls[c]? with
 | none=>none
 | some C=>match C.init with
  | none=>if us=[]then some (.ref hs.length,hs++[.ins c []])else none
  | some f=>match cf f (.ref hs.length::us) (hs++[.ins c []])with
   | some (.non,h2)=>some (.ref hs.length,h2)
   | _=>none
noncomputable def Qnj(T:Tbl)(m:Nat)(o:U)(hs:Hs):Option Nat:=match o with
 | .ref n=>match hs[n]? with
  | some (.ins c _)=>match T.cls[c]? with
   | some C=>C.meths.lookup m
   | none=>none
  | _=>none
 | _=>none
noncomputable def tgN(b:Bool)(n:Nat):Tg:=if b then .pair n (n+1)else .name n
noncomputable def QcY(b:Bool):Rho:=if b then [none,none]else [none]
noncomputable def QQ(T:Tbl)(f:Ev)(ft:Rho->Hs->Option (Bool×Hs))(w:Wk)(b:Bool)(el:E)(ρ:Rho):Nat->Nat->List U->Hs->Option (List U×Hs)
 | 0,_,_,_=>none
 | k+1,i,acc,hs=>match itm T w i hs with
  | none=>none
  | some none=>some (acc,hs)
  | some (some x)=>match tgt (tgN b ρ.length) x (ρ++QcY b) hs with
   | none=>none
   | some ρ'=>if acc.length<1000000 then bd (ft ρ' hs) fun c h1=>if c=true then bd (f el ρ' h1) fun u h2=>QQ T f ft w b el ρ k (i+1) (acc++[u]) h2 else QQ T f ft w b el ρ k (i+1) acc h1 else none
noncomputable def Z4(ft:E->Rho->Hs->Option (Bool×Hs))(t:Option E)(ρ:Rho)(hs:Hs):Option (Bool×Hs):=match t with
 | none=>some (true,hs)
 | some e=>ft e ρ hs
noncomputable def QmP(a b c:Int):Option (List U):=if Qp (a*4)&&Qp (b*4)&&(decide (c=1)||decide (c=-1))then
  (let n:=if c=1 then(b-a).toNat else(a-b).toNat
    if n<=1000000 then some ((List.range n).map fun i:Nat=>.int (a+(i:Int)*c) 0)else none)else none
noncomputable def Qpd:List U->Option (List U)
 | [.int b 0]=>QmP 0 b 1
 | [.int a 0,.int b 0]=>QmP a b 1
 | [.int a 0,.int b 0,.int c 0]=>QmP a b c
 | _=>none
noncomputable def Qcx:U->Bool
 | .ref _=>false
 | _=>true
mutual
noncomputable def ev(T:Tbl)(cf:Cf):Nat->Ev
 | 0,_,_,_=>none
 | d+1,e,ρ,hs=>match e with
  | .c u=>some (u,hs)
  | .con k=>some (.con k,hs)
  | .var i=>match ρ[i]? with
   | some (some u)=>some (u,hs)
   | _=>none
  | .op o a b=>bd (ev T cf d a ρ hs) fun u h1=>bd (ev T cf d b ρ h1) fun w h2=>opU o u w h2
  | .neg a=>bd (ev T cf d a ρ hs) fun u h1=>match u with | .int i m=>some (.int (-i) m,h1) | _=>none
  | .cmp o a b=>bd (ev T cf d a ρ hs) fun u h1=>bd (ev T cf d b ρ h1) fun w h2=>(Zn T o u w h2).map fun c=>(.bl c,h2)
  | .and a b=>bd (ev T cf d a ρ hs) fun u h1=>match u with | .bl true=>ev T cf d b ρ h1 | .bl false=>some (.bl false,h1) | _=>none
  | .or a b=>bd (ev T cf d a ρ hs) fun u h1=>match u with | .bl true=>some (.bl true,h1) | .bl false=>ev T cf d b ρ h1 | _=>none
  | .not a=>bd (ev T cf d a ρ hs) fun u h1=>(Zj T u h1).map fun c=>(.bl (!c),h1)
  | .ife t a b=>bd (evT T cf d t ρ hs) fun c h1=>if c=true then ev T cf d a ρ h1 else ev T cf d b ρ h1
  | .tup es=>bd (evs (ev T cf d) ρ es hs) fun us h1=>some (.ref h1.length,h1++[.tup us])
  | .lst es=>bd (evs (ev T cf d) ρ es hs) fun us h1=>some (.ref h1.length,h1++[.lst us])
  | .dis kvs b=>bd (ev T cf d b ρ hs) fun w h1=>if Y6 w=true then(Zr kvs w).map fun x=>(x,h1)else none
  | .ix a b=>bd (ev T cf d a ρ hs) fun u h1=>bd (ev T cf d b ρ h1) fun w h2=>(QH T u w h2).map fun x=>(x,h2)
  | .tab k b=>bd (ev T cf d b ρ hs) fun w h1=>(Qoh T k w).map fun x=>(x,h1)
  | .sl a lo hi=>bd (ev T cf d a ρ hs) fun u h1=>bd (evO (ev T cf d) ρ lo h1) fun l h2=>bd (evO (ev T cf d) ρ hi h2) fun r h3=>slU T u l r h3
  | .rev a=>bd (ev T cf d a ρ hs) fun u h1=>match QA T u h1 with | some xs=>some (.ref h1.length,h1++[.lst xs.reverse]) | none=>none
  | .tupR es=>bd (evs (ev T cf d) ρ es hs) fun us h1=>match Qpd us with | some xs=>some (.ref h1.length,h1++[.tup xs]) | none=>none
  | .fld a f=>bd (ev T cf d a ρ hs) fun u h1=>match u with
   | .ref n=>match h1[n]? with
    | some (.ins _ fs)=>(fs.lookup f).map fun x=>(x,h1)
    | _=>none
   | _=>none
  | .call f es=>bd (evs (ev T cf d) ρ es hs) fun us h1=>cf f us h1
  | .meth m o es=>bd (ev T cf d o ρ hs) fun u h1=>match Qnj T m u h1 with
   | some f=>bd (evs (ev T cf d) ρ es h1) fun us h2=>cf f (u::us) h2
   | none=>none
  | .make c es=>bd (evs (ev T cf d) ρ es hs) fun us h1=>Qnn T cf c us h1
  | .bi b es=>bd (evs (ev T cf d) ρ es hs) fun us h1=>biU T b us h1
  | .isi a t=>bd (ev T cf d a ρ hs) fun u h1=>(QcZ T t u h1).map fun b=>(.bl b,h1)
  | .bm b o es=>bd (ev T cf d o ρ hs) fun u h1=>if QaV b u h1=true then bd (evs (ev T cf d) ρ es h1) fun us h2=>bmU T b u us h2 else none
  | .comp s b t el=>bd (Ze T (ev T cf d) ρ s hs) fun w h1=>bd (QQ T (ev T cf d) (Z4 (evT T cf d) t) w b el ρ (QZ T w h1) 0 [] h1) fun us h2=>some (.ref h2.length,h2++[.lst us])
  | .dnew=>some (.ref hs.length,hs++[.dic []])
  | .dnewT=>some (.ref hs.length,hs++[.dct []])
  | .zap e=>match ev T cf d e ρ hs with
   | some (u,h1)=>if Qcx u=true/\h1.take hs.length=hs then some (u,hs)else some (u,h1)
   | none=>none
  | .dsp ks es=>bd (evs (ev T cf d) ρ es (hs++[.dic []])) fun us h1=>match h1[hs.length]? with
   | some (.dic [])=>some (.ref hs.length,h1.set hs.length (.dic (ZG [] (ks.zip us))))
   | _=>none
  | .chain o o' a b c=>bd (ev T cf d a ρ hs) fun u h1=>bd (ev T cf d b ρ h1) fun w h2=>match Zn T o u w h2 with
   | some true=>bd (ev T cf d c ρ h2) fun x h3=>(Zn T o' w x h3).map fun k=>(.bl k,h3)
   | some false=>some (.bl false,h2)
   | none=>none
noncomputable def evT(T:Tbl)(cf:Cf):Nat->E->Rho->Hs->Option (Bool×Hs)
 | 0,_,_,_=>none
 | d+1,e,ρ,hs=>match e with
  | .not a=>bd (evT T cf d a ρ hs) fun c h1=>some (!c,h1)
  | .and a b=>bd (evT T cf d a ρ hs) fun c h1=>if c=true then evT T cf d b ρ h1 else some (false,h1)
  | .or a b=>bd (evT T cf d a ρ hs) fun c h1=>if c=true then some (true,h1)else evT T cf d b ρ h1
  | e=>bd (ev T cf d e ρ hs) fun u h1=>(Zj T u h1).map fun b=>(b,h1)
end
noncomputable abbrev Ex:=Rho->Hs->Option (Fl×Rho×Hs)
noncomputable def ZE(T:Tbl)(w:Wk)(t:Tg)(body:Ex):Nat->Nat->Ex
 | 0,_,_,_=>none
 | k+1,i,ρ,hs=>match itm T w i hs with
  | none=>none
  | some none=>some (.next,ρ,hs)
  | some (some x)=>match tgt t x ρ hs with
   | none=>none
   | some ρ'=>match body ρ' hs with
    | some (.next,ρ2,h2)=>ZE T w t body k (i+1) ρ2 h2
    | some (.cont,ρ2,h2)=>ZE T w t body k (i+1) ρ2 h2
    | some (.brk,ρ2,h2)=>some (.next,ρ2,h2)
    | r=>r
noncomputable def Qpp:Option U->Option U
 | some (.ref _)=>none
 | o=>o
noncomputable def frg(ρ:Rho):Rho:=ρ.map Qpp
noncomputable def QnF(i:Nat)(body:Ex):List U->Rho->Option (Fl×Rho)
 | [],ρ=>some (.next,ρ)
 | x::xs,ρ=>match body (ρ.set i (some x)) []with
  | some (.next,ρ2,_)=>QnF i body xs (frg ρ2)
  | some (.cont,ρ2,_)=>QnF i body xs (frg ρ2)
  | some (.brk,ρ2,_)=>some (.next,frg ρ2)
  | some (.ret u,ρ2,_)=>if Qcx u=true then some (.ret u,frg ρ2)else none
  | none=>none
noncomputable def QnD(n:Nat):Option U->Option U
 | some (.ref k)=>if k<n then some (.ref k)else none
 | o=>o
noncomputable def Qmb(n:Nat)(ρ:Rho):Rho:=ρ.map (QnD n)
noncomputable def QnE(hs:Hs)(i:Nat)(body:Ex):List U->Rho->Option (Fl×Rho)
 | [],ρ=>some (.next,ρ)
 | x::xs,ρ=>match body (ρ.set i (some x)) hs with
  | some (fl,ρ2,h2)=>if h2.take hs.length=hs then(match fl with
   | .next=>QnE hs i body xs (Qmb hs.length ρ2)
   | .cont=>QnE hs i body xs (Qmb hs.length ρ2)
   | .brk=>some (.next,Qmb hs.length ρ2)
   | .ret u=>if Qcx u=true then some (.ret u,Qmb hs.length ρ2)else none)else none
  | none=>none
noncomputable def Qew(i:Nat)(body:Ex):List U->Ex
 | [],ρ,hs=>some (.next,ρ,hs)
 | k::ks,ρ,hs=>match body (ρ.set i (some k)) hs with
  | some (.next,ρ2,h2)=>Qew i body ks ρ2 h2
  | some (.cont,ρ2,h2)=>Qew i body ks ρ2 h2
  | some (.brk,ρ2,h2)=>some (.next,ρ2,h2)
  | r=>r
noncomputable def Qbk(u:U)(hs h1:Hs):Option (Nat×List (U×U)):=match u with
 | .ref n=>(match hs[n]? with
  | some (.dic _)=>(match h1[n]? with
   | some (.dic kvs)=>some (n,kvs)
   | _=>none)
  | _=>none)
 | _=>none
noncomputable def Qhw(n:Nat)(r:Option (Fl×Rho×Hs)):Option (Fl×Rho×Hs):=match r with
 | some (fl,ρ,hs)=>(match hs[n]? with
  | some (.fzd kvs)=>some (fl,ρ,hs.set n (.dic kvs))
  | _=>none)
 | none=>none
noncomputable def Qeu(i:Nat)(body:Ex):List (List U)->Ex
 | [],ρ,hs=>some (.next,ρ,hs)
 | k::ks,ρ,hs=>match body (ρ.set i (some (.ref hs.length))) (hs++[.tup k])with
  | some (.next,ρ2,h2)=>Qeu i body ks ρ2 h2
  | some (.cont,ρ2,h2)=>Qeu i body ks ρ2 h2
  | some (.brk,ρ2,h2)=>some (.next,ρ2,h2)
  | r=>r
noncomputable def QeL(u:U)(hs h1:Hs):Option (Nat×List (List U×U)):=match u with
 | .ref n=>(match hs[n]? with
  | some (.dct _)=>(match h1[n]? with
   | some (.dct kvs)=>some (n,kvs)
   | _=>none)
  | _=>none)
 | _=>none
noncomputable def thawT(n:Nat)(r:Option (Fl×Rho×Hs)):Option (Fl×Rho×Hs):=match r with
 | some (fl,ρ,hs)=>(match hs[n]? with
  | some (.fzt kvs)=>some (fl,ρ,hs.set n (.dct kvs))
  | _=>none)
 | none=>none
noncomputable def Qc3(test:Rho->Hs->Option (Bool×Hs))(body:Ex):Nat->Ex
 | 0,_,_=>none
 | k+1,ρ,hs=>match test ρ hs with
  | none=>none
  | some (false,h1)=>some (.next,ρ,h1)
  | some (true,h1)=>match body ρ h1 with
   | some (.next,ρ2,h2)=>Qc3 test body k ρ2 h2
   | some (.cont,ρ2,h2)=>Qc3 test body k ρ2 h2
   | some (.brk,ρ2,h2)=>some (.next,ρ2,h2)
   | r=>r
noncomputable def Qp0(o:Operator)(u w:U):Option U:=match o with
 | .Add=>(match u,w with | .int i 0,.int j 0=>some (.int (i+j) 0) | _,_=>none)
 | .Sub=>(match u,w with | .int i 0,.int j 0=>some (.int (i-j) 0) | _,_=>none)
 | _=>none
noncomputable def QaX(x k u:U)(hs:Hs):Option Hs:=match x with
 | .ref n=>(match hs[n]? with
  | some (.lst xs)=>(match k with
   | .int j 0=>(ixU xs.length j).map fun p=>hs.set n (.lst (xs.set p u))
   | _=>none)
  | some o=>Qbh n o k u hs
  | none=>none)
 | _=>none
mutual
noncomputable def ex(T:Tbl)(cf:Cf):Nat->S->Ex
 | 0,_,_,_=>none
 | d+1,s,ρ,hs=>match s with
  | .pass=>some (.next,ρ,hs)
  | .bad=>none
  | .aug i o e=>match ρ[i]? with
   | some (some u)=>bd (ev T cf d e ρ hs) fun w h1=>(Qp0 o u w).map fun r=>(.next,ρ.set i (some r),h1)
   | _=>none
  | .brk=>some (.brk,ρ,hs)
  | .cont=>some (.cont,ρ,hs)
  | .expr e=>bd (ev T cf d e ρ hs) fun _ h1=>some (.next,ρ,h1)
  | .set i e=>bd (ev T cf d e ρ hs) fun u h1=>some (.next,ρ.set i (some u),h1)
  | .fld o f e=>bd (ev T cf d e ρ hs) fun u h1=>bd (ev T cf d o ρ h1) fun x h2=>match x with
   | .ref n=>match h2[n]? with
    | some (.ins c fs)=>if fs.length<500 then some (.next,ρ,h2.set n (.ins c (Qox f u fs)))else none
    | _=>none
   | _=>none
  | .ret e=>bd (ev T cf d e ρ hs) fun u h1=>some (.ret u,ρ,h1)
  | .retN=>some (.ret .non,ρ,hs)
  | .ite t a b=>match evT T cf d t ρ hs with
   | some (true,h1)=>exs T cf d a ρ h1
   | some (false,h1)=>exs T cf d b ρ h1
   | none=>none
  | .loop t s body=>bd (Ze T (ev T cf d) ρ s hs) fun w h1=>ZE T w t (exs T cf d body) (QZ T w h1) 0 ρ h1
  | .loopC i e body=>bd (ev T cf d e ρ hs) fun u h1=>match QA T u h1 with
   | some xs=>if xs.all Qcx=true then(match QnF i (exs T cf d body) xs (frg ρ)with
    | some (fl,ρ')=>some (fl,ρ',h1)
    | none=>none)else none
   | none=>none
  | .loopD i e body=>bd (ev T cf d e ρ hs) fun u h1=>match u with
   | .ref n=>(match h1[n]? with
    | some (.lst xs)=>if n=hs.length/\h1.take hs.length=hs/\xs.all Qcx=true then(match QnE hs i (exs T cf d body) xs ρ with
     | some (fl,ρ')=>some (fl,ρ',hs)
     | none=>none)else none
    | _=>none)
   | _=>none
  | .loopK i e body=>bd (ev T cf d e ρ hs) fun u h1=>match Qbk u hs h1 with
   | some (n,kvs)=>Qhw n (Qew i (exs T cf d body) (kvs.map (·.1)) ρ (h1.set n (.fzd kvs)))
   | none=>match QeL u hs h1 with
    | some (n,kvs)=>thawT n (Qeu i (exs T cf d body) (kvs.map (·.1)) ρ (h1.set n (.fzt kvs)))
    | none=>none
  | .while t body=>Qc3 (evT T cf d t) (exs T cf d body) 1000000 ρ hs
  | .put o i e=>bd (ev T cf d e ρ hs) fun u h1=>bd (ev T cf d o ρ h1) fun x h2=>bd (ev T cf d i ρ h2) fun k h3=>(QaX x k u h3).map fun h4=>(.next,ρ,h4)
  | .unp i j e=>bd (ev T cf d e ρ hs) fun u h1=>(tgt (.pair i j) (.one u) ρ h1).map fun ρ'=>(.next,ρ',h1)
  | .par i j a b=>bd (ev T cf d a ρ hs) fun u h1=>bd (ev T cf d b ρ h1) fun w h2=>some (.next,(ρ.set i (some u)).set j (some w),h2)
  | .rse _ _=>none
  | .tryE i j f es c=>bd (evs (ev T cf d) ρ es hs) fun us h1=>match cf f us h1 with
   | some (_,h2)=>some (.next,ρ,h2)
   | none=>match T.xf f us h1 with
    | some (c',h2)=>if T.ers.contains c'=true/\T.esb.contains (c',c)=true/\(match T.fns[f]? with | some F=>decide (us.length=F.np) | none=>false)=true then some (.next,(ρ.set i (some (.ref h2.length))).set j none,h2++[.err c'])else none
    | none=>none
  | .cal n _ _=>ex T cf d n ρ hs
noncomputable def exs(T:Tbl)(cf:Cf):Nat->List S->Ex
 | 0,_,_,_=>none
 | d+1,ss,ρ,hs=>match ss with
  | []=>some (.next,ρ,hs)
  | s::r=>match ex T cf d s ρ hs with
   | some (.next,ρ1,h1)=>exs T cf d r ρ1 h1
   | x=>x
end
noncomputable def dd:Nat:=100
noncomputable def fin:Option (Fl×Rho×Hs)->Option (U×Hs)
 | some (.ret u,_,h)=>some (u,h)
 | some (.next,_,h)=>some (.non,h)
 | _=>none
noncomputable def QmR(us:List U)(n:Nat):Rho:=us.map some++List.replicate (n-us.length) none
noncomputable def Qa(T:Tbl):Nat->Cf
 | 0,_,_,_=>none
 | n+1,f,us,hs=>match T.fns[f]? with
  | none=>none
  | some F=>if us.length=F.np then fin (exs T (Qa T n) dd F.body (QmR us F.nN) hs)else none
end Iv
namespace Iv
open PySem
end Iv
namespace Iv
open PySem
inductive G where
 | fn (i:Nat) | cls (i:Nat) | con (k:Nat) | txt (x:List Nat)
structure Ctx where
 T:Tbl
 N:List Str
 names:List (Str×NameKind)
 gl:List (Str×G)
 bl:List Str
 lc:Bool:=false
noncomputable def idx(x:Str):List Str->Option Nat
 | []=>none
 | y::r=>if y=x then some 0 else(idx x r).map (· + 1)
noncomputable def Qge(C:Ctx)(x:Str):Bool:=match C.names.lookup x with
 | some .local=>true | some .cell=>true | some .free=>true | _=>false
noncomputable def Qba(C:Ctx)(x:Str):Bool:=match C.names.lookup x with
 | some .local=>true | some .cell=>true | _=>false
noncomputable def Y8(C:Ctx)(x:Str):Bool:=match C.names.lookup x with
 | some .globalImplicit=>true | _=>false
noncomputable def YM:Expr->Bool
 | .Call (.Name _ _) [] [] _=>false
 | _=>true
noncomputable def ZC:Expr->Bool
 | .Slice ..=>false
 | _=>true
noncomputable def QjR(C:Ctx)(x:Str):Option Ty:=match C.gl.lookup x with
 | some (.cls i)=>some (.cls i)
 | some _=>none
 | none=>if C.bl.contains x=false then none else if x="int" then some .int else if x="str" then some .str else if x="bool" then some .bool else if x="list" then some .list else if x="tuple" then some .tuple else if x="dict" then some .dict else if x="ValueError" then some .vale else none
noncomputable def QlN(x:Str):Option Bi:=if x="sorted" then some .sorted else if x="dict" then some .dict else none
noncomputable def Qmg(C:Ctx)(x:Str):Option Bi:=match C.gl.lookup x with
 | some _=>none
 | none=>if C.bl.contains x=false then none else if x="len" then some .len else if x="tuple" then some .tuple else if x="max" then some .max else QlN x
noncomputable def QlM(x:Str):Option Bm:=if x="get" then some .get else if x="update" then some .update else none
noncomputable def Qmf(x:Str):Option Bm:=if x="append" then some .append else if x="setdefault" then some .setdef else if x="extend" then some .extend else QlM x
noncomputable def QgY:E->Bool
 | .and _ _=>false
 | .or _ _=>false
 | .not _=>false
 | _=>true
noncomputable def okT:Expr->E->Bool
 | .BoolOp ..,_=>true
 | .UnaryOp .Not ..,_=>true
 | .Compare ..,_=>true
 | _,ir=>QgY ir
noncomputable def Qdx(C:Ctx)(f:Str)(args:List Expr):Option (List Expr):=none
noncomputable def JB(C:Ctx)(f:Str)(args:List Expr):Option Expr:=if f="list" then(match args with
 | [.Call (.Name r _) [a] [] _]=>if r="reversed"&&Y8 C r&&(C.gl.lookup r).isNone&&C.bl.contains r then some a else none
 | _=>none)else none
noncomputable def QeP:Expr->Option U
 | .Constant (.int i) _ _=>some (.int i 0)
 | .Constant (.str x) _ _=>some (.str x.cps.toList)
 | _=>none
noncomputable def Qg5{α β:Type}(f:α->Option β):List α->Option (List β)
 | []=>some []
 | a::r=>(f a).bind fun b=>(Qg5 f r).bind fun bs=>some (b::bs)
noncomputable def JJ:List (Option Expr)->Option (List U)
 | []=>some []
 | some k::ks=>(QeP k).bind fun k'=>(JJ ks).bind fun r=>some (k'::r)
 | none::_=>none
noncomputable def QnO:List (Option Expr)->List Expr->Option (List (U×U))
 | [],[]=>some []
 | some k::ks,v::vs=>(QeP k).bind fun k'=>(QeP v).bind fun v'=>(QnO ks vs).bind fun r=>if r.any (fun p=>decide (p.1=k'))then none else some ((k',v')::r)
 | _,_=>none
noncomputable def Ctx.inner(C:Ctx)(xs:List Str)(scope:Scope):Ctx:={ C with N:=L2.hideN xs C.N++xs,names:=L2.relN C.names scope.names,lc:=false }
noncomputable def Jp(C:Ctx)(xs:List Str)(scope:Scope):Bool:=(scope.kind==.function)&&xs.all (fun x=>(scope.names.lookup x==some .local)&&(scope.names.lookup (L2.mang x)==none))&&decide (L2.hideN xs C.N++xs).Nodup&&scope.names.all (fun y=>match y.2 with
  | .local=>(xs.contains y.1||decide (y.1=".0"))&&(scope.names.lookup y.1==some .local)
  | .free=>(C.names.lookup y.1==some .cell)||(C.names.lookup y.1==some .free)
  | .cell=>false
  | _=>true)&&!(C.N.contains ".0")
noncomputable def Qma:Src->Bool
 | .zip _ _=>true
 | .enm _=>true
 | _=>false
noncomputable def QdU:Src->Tg->Bool
 | .zip _ _,.name _=>false
 | .enm _,.name _=>false
 | .revd _,.pair _ _=>false
 | _,_=>true
noncomputable def Qmw:Expr->Option (Bool×List Str)
 | .Name x _=>some (false,[x])
 | .Tuple es _ _=>(match es with
  | [a,b]=>(match a,b with
   | .Name x _,.Name y _=>some (true,[x,y])
   | _,_=>none)
  | _=>none)
 | _=>none
noncomputable def QoG:List Expr->Option (Option Expr)
 | []=>some none
 | [t]=>some (some t)
 | _=>none
structure Gn where
 b:Bool
 xs:List Str
 iter:Expr
 tl:Option Expr
noncomputable def Qgj:List Comprehension->Option Gn
 | [g]=>if g.is_async=0 then(Qmw g.target).bind fun t=>(QoG g.ifs).map fun tl=>⟨t.1,t.2,g.iter,tl⟩else none
 | _=>none
noncomputable def Qmh(tg:Expr)(b:Bool)(xs:List Str):Prop:=(b=false/\∃x p,tg=.Name x p/\xs=[x])\/(b=true/\∃x p y q k pt,tg=.Tuple [.Name x p,.Name y q] k pt/\xs=[x,y])
theorem Qhx{tg:Expr}{b:Bool}{xs:List Str}(h:Qmw tg=some (b,xs)):Qmh tg b xs:=by
 unfold Qmw at h;split at h
 ·cases h;exact .inl ⟨rfl,_,_,rfl,rfl⟩
 ·split at h
  ·split at h
   ·cases h;exact .inr ⟨rfl,_,_,_,_,_,_,rfl,rfl⟩
   ·cases h
  ·cases h
 ·cases h
theorem QcI{gens:List Comprehension}{g:Gn}(h:Qgj gens=some g):∃tg,gens=[⟨tg,g.iter,g.tl.toList,0⟩]/\Qmh tg g.b g.xs:=by
 unfold Qgj at h;split at h
 ·rename_i c;split at h
  ·rename_i e;simp only [Option.bind_eq_some_iff,Option.map_eq_some_iff]at h;obtain⟨⟨b,xs⟩,h1,tl,h2,rfl⟩:=h;obtain⟨tg,iter,ifs,ia⟩:=c;simp only at e h1 h2;subst e;refine⟨tg,?_,Qhx h1⟩
   have:ifs=tl.toList:=by
    unfold QoG at h2;split at h2<;>cases h2<;>rfl
   rw [this]
  ·cases h
 ·cases h
inductive Sl where
 | cut (lo hi:Option Expr) | rev | bad
noncomputable def Qnu:Expr->Bool
 | .UnaryOp .USub (.Constant (.int 1) _ _) _=>true
 | _=>false
noncomputable def QgO:Expr->Option Sl
 | .Slice lo hi st _=>(match st with
  | none=>some (.cut lo hi)
  | some e=>if Qnu e&&lo.isNone&&hi.isNone then some .rev else some .bad)
 | _=>none
inductive He where
 | tab (ks:List (Option Expr)) (vs:List Expr) | nm (x:Str) | any
noncomputable def Qls:Expr->He
 | .Name x _=>.nm x
 | _=>.any
noncomputable def Qhz(C:Ctx)(x:Str):Option Nat:=if Y8 C x&&decide (x≠"__debug__")then(match C.gl.lookup x with
 | some (.con k)=>(match C.T.cons[k]? with | some (.tab _)=>some k | _=>none)
 | _=>none)else none
noncomputable def Ql7(C:Ctx)(i:Nat)(es:List E):Option E:=match C.T.dfl.lookup i with
 | none=>some (.call i es)
 | some D=>if es.length<=D.np/\D.np<=es.length+D.ds.length then some (.call i (es++(D.ds.drop (D.ds.length-(D.np-es.length))).map .c))else none
mutual
noncomputable def Qh:Nat->Ctx->Expr->Option E
 | 0,_,_=>none
 | m+1,C,e=>match e with
  | .Constant (.int i) _ _=>some (.c (.int i 0))
  | .Constant (.bool b) _ _=>some (.c (.bl b))
  | .Constant .none _ _=>some (.c .non)
  | .Constant (.str x) _ _=>some (.c (.str x.cps.toList))
  | .Name x _ => if x = "__debug__" \/ x = "__classdict__" then none else if Qge C x then (idx x C.N).map .var else if Y8 C x then (match C.gl.lookup x with | some (.con k) => some (.con k) | some (.txt t) => some (.c (.str t)) | _ => none) else none
  | .BinOp a o b _=>(Qh m C a).bind fun a'=>(Qh m C b).bind fun b'=>some (.op o a' b')
  | .UnaryOp .USub a _=>(Qh m C a).bind fun a'=>some (.neg a')
  | .UnaryOp .Not a _=>(compT m C a).bind fun a'=>some (.not a')
  | .BoolOp .And (a::r) p=>compAnd m C a r p
  | .BoolOp .Or (a::r) p=>compOr m C a r p
  | .Compare a [o] [b] _=>(Qh m C a).bind fun a'=>(Qh m C b).bind fun b'=>some (.cmp o a' b')
  | .IfExp t a b _=>(compT m C t).bind fun t'=>(Qh m C a).bind fun a'=>(Qh m C b).bind fun b'=>some (.ife t' a' b')
  | .Tuple es _ _=>if es.length<=1000000 then(compA m C es).bind fun es'=>some (.tup es')else none
  | .List es _=>if es.length<=1000000 then(compA m C es).bind fun es'=>some (.lst es')else none
  | .Subscript a b _=>match QgO b with
   | some (.cut lo hi)=>(Qh m C a).bind fun a'=>(compO m C lo).bind fun l=>(compO m C hi).bind fun h=>some (.sl a' l h)
   | some .rev=>(Qh m C a).bind fun a'=>some (.rev a')
   | some .bad=>none
   | none=>(Qh m C b).bind fun b'=>match Qls a with
    | .tab ks vs=>if decide (ks.length<=15)&&!ks.isEmpty then(QnO ks vs).bind fun kvs=>some (.dis kvs b')else none
    | .nm x=>(match Qhz C x with | some k=>some (.tab k b') | none=>(Qh m C a).bind fun a'=>some (.ix a' b'))
    | .any=>(Qh m C a).bind fun a'=>some (.ix a' b')
  | .Call (.Name f _) args [] _ => if f = "__debug__" \/ f = "__name__" \/ Y8 C f = false then none else match C.gl.lookup f with
   | some (.fn i)=>(compA m C args).bind fun es=>Ql7 C i es
   | some (.cls _)=>none
   | some (.con _)=>none
   | some (.txt _)=>none
   | none=>if C.bl.contains f=false then none else if f="isinstance" then(match args with
     | [a, .Name t _] => if Y8 C t /\ t ≠ "__debug__" /\ t ≠ "__name__" then (Qh m C a).bind fun a' => (QjR C t).bind fun ty => some (.isi a' ty) else none
     | _=>none)
    else match Qdx C f args with
     | some ra=>(compA m C ra).bind fun es=>some (.tupR es)
     | none=>match JB C f args with
      | some a=>(Qh m C a).bind fun a'=>some (.rev a')
      | none=>(Qmg C f).bind fun b=>(compA m C args).bind fun es=>some (.bi b es)
  | .Call (.Attribute o x p) args [] q=>if YM o&&(p.endLine==q.line)&&decide (args.length<29)then match idx x C.T.mns with
   | some _=>none
   | none=>(Qmf x).bind fun b=>(Qh m C o).bind fun o'=>(compA m C args).bind fun es=>some (.bm b o' es)else none
  | .ListComp elt gens scope _=>(match Qgj gens with
   | some g=>if Jp C g.xs scope then(compSrc m C g.iter).bind fun src=>if QdU src (tgN g.b 0)then(compTO m (C.inner g.xs scope) g.tl).bind fun t=>(Qh m (C.inner g.xs scope) elt).bind fun el=>some (.comp src g.b t el)else none else none
   | none=>none)
  | .Dict [] [] _=>some .dnew
  | .Dict ks vs _=>(JJ ks).bind fun kk=>if kk.length=vs.length/\kk.length<=15/\kk≠[]then(Qg5 (Qh m C) vs).bind fun es=>some (.dsp kk es)else none
  | _=>none
noncomputable def compT:Nat->Ctx->Expr->Option E
 | 0,_,_=>none
 | m+1,C,e=>match e with
  | .IfExp ..=>none
  | .NamedExpr ..=>none
  | e=>(Qh m C e).bind fun ir=>if okT e ir then some ir else none
noncomputable def compTO:Nat->Ctx->Option Expr->Option (Option E)
 | 0,_,_=>none
 | m+1,C,none=>some none
 | m+1,C,some e=>(compT m C e).bind fun e'=>some (some e')
noncomputable def compAnd:Nat->Ctx->Expr->List Expr->Pos->Option E
 | 0,_,_,_,_=>none
 | m+1,C,a,r,p=>match r with
  | []=>compT m C a
  | b::r=>(compT m C a).bind fun a'=>(compAnd m C b r p).bind fun b'=>some (.and a' b')
noncomputable def compOr:Nat->Ctx->Expr->List Expr->Pos->Option E
 | 0,_,_,_,_=>none
 | m+1,C,a,r,p=>match r with
  | []=>compT m C a
  | b::r=>(compT m C a).bind fun a'=>(compOr m C b r p).bind fun b'=>some (.or a' b')
noncomputable def compA:Nat->Ctx->List Expr->Option (List E)
 | 0,_,_=>none
 | m+1,C,es=>match es with
  | []=>some []
  | e::r=>(Qh m C e).bind fun e'=>(compA m C r).bind fun r'=>some (e'::r')
noncomputable def compO:Nat->Ctx->Option Expr->Option (Option E)
 | 0,_,_=>none
 | m+1,C,none=>some none
 | m+1,C,some e=>(Qh m C e).bind fun e'=>some (some e')
noncomputable def compSrc:Nat->Ctx->Expr->Option Src
 | 0,_,_=>none
 | m+1,C,e=>match e with
  | .Call (.Name f p) args [] q=>if Y8 C f then(match C.gl.lookup f with
   | some _=>(Qh m C (.Call (.Name f p) args [] q)).map .seq
   | none=>if C.bl.contains f=false then none else if f="range" then(match args with
     | [a]=>(Qh m C a).map .rng
     | [a,b]=>(Qh m C a).bind fun a'=>(Qh m C b).map fun b'=>.rng2 a' b'
     | [a,b,c]=>(compA m C [a,b,c]).map .rngA
     | _=>none)
    else if f="enumerate" then(match args with
     | [a]=>(Qh m C a).map .enm
     | _=>none)
    else(Qh m C (.Call (.Name f p) args [] q)).map .seq)else none
  | e=>(Qh m C e).map .seq
end
theorem cE4 {m : Nat} {C : Ctx} {x w1} : Qh (m + 1) C (.Name x w1) = (if x = "__debug__" \/ x = "__classdict__" then none else if Qge C x then (idx x C.N).map .var else if Y8 C x then (match C.gl.lookup x with | some (.con k) => some (.con k) | some (.txt t) => some (.c (.str t)) | _ => none) else none) := rfl
theorem cE5{m:Nat}{C:Ctx}{a o b w1}:Qh (m+1) C (.BinOp a o b w1)=((Qh m C a).bind fun a'=>(Qh m C b).bind fun b'=>some (.op o a' b')):=rfl
theorem cE6{m:Nat}{C:Ctx}{a w1}:Qh (m+1) C (.UnaryOp .USub a w1)=((Qh m C a).bind fun a'=>some (.neg a')):=rfl
theorem cE7{m:Nat}{C:Ctx}{a w1}:Qh (m+1) C (.UnaryOp .Not a w1)=((compT m C a).bind fun a'=>some (.not a')):=rfl
theorem QpR{m:Nat}{C:Ctx}{a o b w1}:Qh (m+1) C (.Compare a [o] [b] w1)=((Qh m C a).bind fun a'=>(Qh m C b).bind fun b'=>some (.cmp o a' b')):=rfl
theorem QpQ{m:Nat}{C:Ctx}{t a b w1}:Qh (m+1) C (.IfExp t a b w1)=((compT m C t).bind fun t'=>(Qh m C a).bind fun a'=>(Qh m C b).bind fun b'=>some (.ife t' a' b')):=rfl
theorem QpP{m:Nat}{C:Ctx}{es w1 w2}:Qh (m+1) C (.Tuple es w1 w2)=(if es.length<=1000000 then(compA m C es).bind fun es'=>some (.tup es')else none):=rfl
theorem QpO{m:Nat}{C:Ctx}{es w1}:Qh (m+1) C (.List es w1)=(if es.length<=1000000 then(compA m C es).bind fun es'=>some (.lst es')else none):=rfl
theorem QpN{m:Nat}{C:Ctx}{a b w1}:Qh (m+1) C (.Subscript a b w1)=(match QgO b with
   | some (.cut lo hi)=>(Qh m C a).bind fun a'=>(compO m C lo).bind fun l=>(compO m C hi).bind fun h=>some (.sl a' l h)
   | some .rev=>(Qh m C a).bind fun a'=>some (.rev a')
   | some .bad=>none
   | none=>(Qh m C b).bind fun b'=>match Qls a with
    | .tab ks vs=>if decide (ks.length<=15)&&!ks.isEmpty then(QnO ks vs).bind fun kvs=>some (.dis kvs b')else none
    | .nm x=>(match Qhz C x with | some k=>some (.tab k b') | none=>(Qh m C a).bind fun a'=>some (.ix a' b'))
    | .any=>(Qh m C a).bind fun a'=>some (.ix a' b')):=rfl
theorem QpM {m : Nat} {C : Ctx} {f w1 args w2} : Qh (m + 1) C (.Call (.Name f w1) args [] w2) = (if f = "__debug__" \/ f = "__name__" \/ Y8 C f = false then none else match C.gl.lookup f with
   | some (.fn i)=>(compA m C args).bind fun es=>Ql7 C i es
   | some (.cls _)=>none
   | some (.con _)=>none
   | some (.txt _)=>none
   | none=>if C.bl.contains f=false then none else if f="isinstance" then(match args with
     | [a, .Name t _] => if Y8 C t /\ t ≠ "__debug__" /\ t ≠ "__name__" then (Qh m C a).bind fun a' => (QjR C t).bind fun ty => some (.isi a' ty) else none
     | _=>none)
    else match Qdx C f args with
     | some ra=>(compA m C ra).bind fun es=>some (.tupR es)
     | none=>match JB C f args with
      | some a=>(Qh m C a).bind fun a'=>some (.rev a')
      | none=>(Qmg C f).bind fun b=>(compA m C args).bind fun es=>some (.bi b es)):=rfl
theorem QpL{m:Nat}{C:Ctx}{o x p args q}:Qh (m+1) C (.Call (.Attribute o x p) args [] q)=(if YM o&&(p.endLine==q.line)&&decide (args.length<29)then match idx x C.T.mns with
   | some _=>none
   | none=>(Qmf x).bind fun b=>(Qh m C o).bind fun o'=>(compA m C args).bind fun es=>some (.bm b o' es)else none):=rfl
theorem QpK{m:Nat}{C:Ctx}{elt gens scope w1}:Qh (m+1) C (.ListComp elt gens scope w1)=((match Qgj gens with
   | some g=>if Jp C g.xs scope then(compSrc m C g.iter).bind fun src=>if QdU src (tgN g.b 0)then(compTO m (C.inner g.xs scope) g.tl).bind fun t=>(Qh m (C.inner g.xs scope) elt).bind fun el=>some (.comp src g.b t el)else none else none
   | none=>none)):=rfl
theorem QpJ{m:Nat}{C:Ctx}{w1}:Qh (m+1) C (.Dict [] [] w1)=(some .dnew):=rfl
theorem QpI{m:Nat}{C:Ctx}{k0 ks vs w1}:Qh (m+1) C (.Dict (k0::ks) vs w1)=((JJ (k0::ks)).bind fun kk=>if kk.length=vs.length/\kk.length<=15/\kk≠[]then(Qg5 (Qh m C) vs).bind fun es=>some (.dsp kk es)else none):=rfl
noncomputable def Jo(C:Ctx):Expr->Option Tg
 | .Name x _=>if Qba C x then(idx x C.N).map .name else none
 | .Tuple [.Name x _,.Name y _] _ _=>if Qba C x&&Qba C y&&decide (x≠y)then(idx x C.N).bind fun i=>(idx y C.N).map fun j=>.pair i j else none
 | _=>none
noncomputable def QoK:Expr->Option Bool
 | .Constant c _ _=>(match c with | .str _=>some true | _=>none)
 | .ListComp ..=>some false
 | _=>none
inductive As where
 | nm (x:Str) | at (o:Expr) (f:Str) | sub (o i:Expr) | two (x:Str) (p:Pos) (y:Str) (q:Pos)
noncomputable def Qfx:Expr->Expr->Option As
 | .Name x p,.Name y q=>some (.two x p y q)
 | _,_=>none
noncomputable def as1:Expr->Option As
 | .Name x _=>some (.nm x)
 | .Attribute o f _=>some (.at o f)
 | .Subscript o i _=>some (.sub o i)
 | .Tuple es _ _=>(match es with | [a,b]=>Qfx a b | _=>none)
 | _=>none
noncomputable def QlV:List Expr->Option As
 | [t]=>as1 t
 | _=>none
noncomputable def Qpx(C:Ctx)(it:Expr):Bool:=match it with
 | .Name y _=>C.T.dts.contains y
 | _=>false
noncomputable def QoF(C:Ctx)(tg it:Expr)(t:Tg):Option Nat:=match tg with
 | .Name x _=>(match t with | .name i=>if C.T.dts.contains x||Qpx C it then some i else none | _=>none)
 | _=>none
noncomputable def Qb8(C:Ctx)(x:Str):Bool:=match C.names.lookup x with
 | some .local=>true | _=>false
noncomputable def QkQ:Expr->Option (Expr×Expr)
 | .Tuple es _ _=>(match es with | [a,b]=>some (a,b) | _=>none)
 | _=>none
noncomputable def Qg3:Expr->Bool
 | .Tuple ..=>false
 | _=>true
noncomputable def Qeo:Expr->Bool
 | .Dict [] [] _=>true
 | _=>false
noncomputable def Qk5:Expr->Bool
 | .ListComp ..=>false
 | _=>true
noncomputable def QjC(C:Ctx)(x:Str)(e0:Expr)(e:E):E:=if(C.T.zps.contains x&&Qk5 e0)=true then .zap e else e
noncomputable def QoM(m:Nat)(C:Ctx)(s:Stmt)(s0:S):Option S:=some s0
mutual
noncomputable def Yq:Nat->Ctx->Stmt->Option S
 | 0,_,_=>none
 | m+1,C,s=>match s with
  | .Pass _=>some .pass
  | .Break _=>some .brk
  | .Continue _=>some .cont
  | .Expr e _=>(match QoK e with
   | some true=>some .pass
   | some false=>none
   | none=>(Qh m C e).map .expr)
  | .Return v _=>(match v with
   | none=>some .retN
   | some e=>(Qh m C e).map .ret)
  | .Assign ts e _=>(match QlV ts with
   | some (.nm x)=>if Qba C x then(idx x C.N).bind fun i=>if Qeo e&&C.T.dts.contains x then some (.set i .dnewT)else(Qh m C e).bind fun e'=>some (.set i (QjC C x e e'))else none
   | some (.at _ _)=>none
   | some (.sub o i)=>if ZC i then(Qh m C e).bind fun e'=>(Qh m C o).bind fun o'=>(Qh m C i).bind fun i'=>some (.put o' i' e')else none
   | some (.two x p y q)=>if Qb8 C x&&Qb8 C y&&decide (x≠y)then(idx x C.N).bind fun i=>(idx y C.N).bind fun j=>(match QkQ e with
     | some _=>none
     | none=>if Qg3 e then(Qh m C e).map (.unp i j)else none)else none
   | none=>none)
  | .Raise _ _ _=>some .bad
  | .If t a b _=>(compT m C t).bind fun t'=>(compSs m C a).bind fun a'=>(compSs m C b).bind fun b'=>some (.ite t' a' b')
  | .For tg it a [] _=>(Jo C tg).bind fun tg'=>(compSrc m C it).bind fun it'=>match QoF C tg it tg' with
   | some i=>(Qh m C it).bind fun e=>(compSs m C a).bind fun a'=>some (.loopK i e a')
   | none=>if QdU it' tg' then(compSs m C a).bind fun a'=>some (.loop tg' it' a')else none
  | _=>none
noncomputable def compSs:Nat->Ctx->List Stmt->Option (List S)
 | 0,_,_=>none
 | m+1,C,ss=>match ss with
  | []=>some []
  | s::r=>(Yq m C s).bind fun s0=>(QoM m C s s0).bind fun s'=>(compSs m C r).bind fun r'=>some (s'::r')
end
end Iv
namespace L2
open PySem PySem.Spec PyProof.Rows
section
variable {X:Cx}
noncomputable def Qkv(K:PySem.W.Frag):R2:=fun x y H Q=>∃a b ys,x=.ref a/\y=.ref b/\SqT K H a []/\SqT K H b ys/\Q (.ref b) H
theorem Qf4:OpR X (binaryOp .Add) (Qkv X.K):=by
 intro pins s σ H x y v u Q I rx ry h;obtain⟨a,b,ys,rfl,rfl,ha,hb,q⟩:=h;cases rx;cases ry;obtain⟨i1,r1,ht,_⟩:=I.tuple ha;obtain⟨i2,r2,hb,_⟩:=I.tuple hb;cases r1;obtain⟨⟨cls,dd,data,sl⟩,ho,hc,n,hd⟩:=id ht;obtain⟨⟨cls2,dd2,data2,sl2⟩,ho2,hc2,n2,hd2⟩:=id hb;simp only at hc hd hc2 hd2;subst hc hd hc2 hd2
 exact concat_meets ⟨_,ho,rfl⟩ ⟨_,ho2,rfl⟩ noFill_tuple_add seq_tuple_add PySem.F.slot_tuple_add PySem.F.entry_tuple_add (PySem.F.args_tuple_add_2 _ _)
  (tuple_addW0 a b _ _ n n2 dd dd2 sl sl2 (by simp)) ⟨ho,ho2,⟨.ref b,H,I.tok _,rfl,q⟩⟩
noncomputable def QnT:V->Option Value
 | .ty n=>some (.type n)
 | .ref a=>some (.ref a)
 | _=>none
noncomputable def TyE(K:PySem.W.Frag)(H:Hp)(x:V)(t:Value):Prop:=TyOf K H x t\/∃a C,x=.ref a/\t=.ref C/\H a=some (Qmc a C)/\ErrCls K C
theorem Qgx : CallR X (.builtin "isinstance") (fun xs H Q => ∃ x c cv t b, xs = [x, c] /\ QnT c = some cv /\ TyE X.K H x t /\ PySem.W.kitOne X.K t cv = some b /\ Q (.bl b) H) := by
 intro pins s σ H xs us Q I r h;obtain⟨x,c,cv,t,b,rfl,hc,ty,e,q⟩:=h
 rcases ty with ty | ⟨a,C,rfl,rfl,ha,Y⟩
 case inr=>exact QeZ pins s σ H _ us Q I r ⟨a,c,cv,C,b,rfl,by unfold QnT at hc;exact hc,ha,Y,e,q⟩
 obtain⟨u,w',rfl,rx,rc⟩:=Qcq r
 have ec:w'=cv:=by
  cases c with
  | ty n=>cases(show w'=Value.type n from rc);exact Option.some.inj hc
  | ref a=>cases(show w'=Value.ref a from rc);exact Option.some.inj hc
  | _=>cases hc
 subst ec;exact Qem I rx ty e fun tk=>⟨.bl b,H,I.tok tk,rfl,q⟩
end
end L2
namespace Iv
open PySem PySem.Spec PyProof.Rows L2
noncomputable abbrev St:=L2.St
structure Adr where
 f:Nat->Addr
 c:Nat->Addr
 k:Nat->Addr
 s:Addr
noncomputable def Cg(i r:Int)(m:Nat):Prop:=∃q:Int,i=r+m*q
theorem Cg.exact{i r:Int}(h:Cg i r 0):i=r:=by obtain⟨q,e⟩:=h;simpa using e
theorem Cg.refl(i:Int)(m:Nat):Cg i i m:=⟨0,by simp⟩
noncomputable def RU(A:Adr)(α:List Addr):U->V->Prop
 | .non,v=>v=.non
 | .bl b,v=>v=.bl b
 | .int r m,v=>∃i,v=.int i/\Cg i r m
 | .str x,v=>v=.str ⟨x.toArray⟩
 | .ref n,v=>∃a,α[n]?=some a/\v=.ref a
 | .con k,v=>v=.ref (A.k k)
 | .scr,v=>v=.ref A.s
noncomputable abbrev RUs(A:Adr)(α:List Addr):List U->List V->Prop:=Paired (RU A α)
noncomputable def RF(T:Tbl)(A:Adr)(α:List Addr):List (Nat×U)->List (Str×V)->Prop:=Paired fun p q=>T.fns'[p.1]?=some q.1/\RU A α p.2 q.2
noncomputable def RK:U->Key->Prop
 | .int i m,k=>m=0/\k=Sum.inl i
 | .str x,k=>k=Sum.inr ⟨x.toArray⟩
 | _,_=>False
noncomputable def RD(A:Adr)(α:List Addr):List (U×U)->List (Key×V)->Prop:=Paired fun p q=>RK p.1 q.1/\RU A α p.2 q.2
noncomputable abbrev RKs:List U->List Key->Prop:=Paired RK
noncomputable def RT(A:Adr)(α:List Addr):List (List U×U)->List (List Key×V)->Prop:=Paired fun p q=>RKs p.1 q.1/\RU A α p.2 q.2
noncomputable def RO(T:Tbl)(A:Adr)(α:List Addr)(H:Hp)(a:Addr):O->Prop
 | .lst xs=>∃vs,H a=some (.lst vs)/\RUs A α xs vs
 | .tup xs=>∃vs,H a=some (.tup vs)/\RUs A α xs vs
 | .ins c fs=>∃dx fv,H a=some (.ins (A.c c) dx fv)/\RF T A α fs fv/\c<T.cls.length
 | .dic kvs=>∃kv,H a=some (.dK kv)/\RD A α kvs kv
 | .dct kvs=>∃kv,H a=some (.dT kv)/\RT A α kvs kv
 | .fzd kvs=>∃kv ob,H a=some (.frz ob (.dK kv))/\RD A α kvs kv
 | .fzt kvs=>∃kv ob,H a=some (.frz ob (.dT kv))/\RT A α kvs kv
 | .err c=>H a=some (Qmc a (A.c c))/\T.ers.contains c=true
structure RH(T:Tbl)(A:Adr)(α:List Addr)(hs:Hs)(H:Hp):Prop where
 len:α.length=hs.length
 nd:∀(i j:Nat) a,α[i]?=some a->α[j]?=some a->i=j\/∃vs,H a=some (.tup vs)
 ob:∀(n:Nat) a o,α[n]?=some a->hs[n]?=some o->RO T A α H a o
noncomputable def Qob(K:PySem.W.Frag)(H:Hp)(a:Addr)(xs:List V):Prop:=(∃o,H a=some (.frz o (.lst xs))) \/
 ∃ (o : Obj) (its : Array Value) (n : Nat), K.lookup a = some o /\ o.cls = .type "list" /\ o.dict = none /\ o.data = .seq its n /\ its.size <= sizeLine /\ Vals xs its.toList
noncomputable def Scr(T:Tbl)(A:Adr)(K:PySem.W.Frag)(H:Hp):Prop:=∃vs,RUs A [] T.scr vs/\Qob K H A.s vs
structure Rep(T:Tbl)(A:Adr)(K:PySem.W.Frag)(α:List Addr)(hs:Hs)(H:Hp):Prop where
 h:RH T A α hs H
 s:Scr T A K H
structure Ext(α α':List Addr)(H H':Hp):Prop where
 pre:∀(n:Nat) a,α[n]?=some a->α'[n]?=some a
 new:∀(n:Nat) a,α'[n]?=some a->α.length<=n->H a=none\/∃vs,H a=some (.tup vs)
 keep:∀b o,H b=some o->b∉α->H' b=some o
 fz:∀b o u,H b=some (.frz o u)->H' b=some (.frz o u)
 tr:∀b o,H b=some o->∃o',H' b=some o'/\∀vs,o=.tup vs↔o'=.tup vs
structure RS(A:Adr)(α:List Addr)(ρ:Rho)(σ:St):Prop where
 len:ρ.length=σ.length
 val:∀(i:Nat) u,ρ[i]?=some (some u)->∃v,σ[i]?=some (some v)/\RU A α u v
section
variable {T:Tbl}{A:Adr}{K:PySem.W.Frag}{α α' α1 α2:List Addr}{hs hs' h1 h2:Hs}{H H' H1 H2:Hp}{u:U}{v:V}{us:List U}{vs:List V}{ρ:Rho}{σ:St}
theorem RU.mono(p:∀(n:Nat) a,α[n]?=some a->α'[n]?=some a)(h:RU A α u v):RU A α' u v:=by
 cases u with
 | ref n=>obtain⟨a,e,r⟩:=h;exact⟨a,p _ _ e,r⟩
 | _=>exact h
theorem RUs.mono(p:∀(n:Nat) a,α[n]?=some a->α'[n]?=some a)(h:RUs A α us vs):RUs A α' us vs:=Paired.mapP h fun _ _ r=>RU.mono p r
theorem RF.mono{fs:List (Nat×U)}{fv:List (Str×V)}(p:∀(n:Nat) a,α[n]?=some a->α'[n]?=some a)(h:RF T A α fs fv):RF T A α' fs fv:=Paired.mapP h fun _ _ r=>⟨r.1,r.2.mono p⟩
theorem RD.mono{fs:List (U×U)}{fv:List (Key×V)}(p:∀(n:Nat) a,α[n]?=some a->α'[n]?=some a)(h:RD A α fs fv):RD A α' fs fv:=Paired.mapP h fun _ _ r=>⟨r.1,r.2.mono p⟩
theorem RT.mono{fs:List (List U×U)}{fv:List (List Key×V)}(p:∀(n:Nat) a,α[n]?=some a->α'[n]?=some a)(h:RT A α fs fv):RT A α' fs fv:=Paired.mapP h fun _ _ r=>⟨r.1,r.2.mono p⟩
theorem RS.mono(p:∀(n:Nat) a,α[n]?=some a->α'[n]?=some a)(h:RS A α ρ σ):RS A α' ρ σ:=⟨h.len,fun i u e=>let ⟨v,e1,r⟩:=h.val i u e;⟨v,e1,r.mono p⟩⟩
theorem Ext.refl:Ext α α H H:=⟨fun _ _ e=>e,fun n a e l=>by
 have:=(List.getElem?_eq_some_iff.mp e).1
 omega,fun _ _ e _=>e,fun _ _ _ e=>e,fun _ o e=>⟨o,e,fun _=>Iff.rfl⟩⟩
theorem getElem?_lt{n:Nat}{a:Addr}(e:α[n]?=some a):n < α.length:=(List.getElem?_eq_some_iff.mp e).1
theorem Ext.trans(a:Ext α α1 H H1)(b:Ext α1 α2 H1 H2)(R:RH T A α2 h2 H2):Ext α α2 H H2 where
 fz:=fun c o kv e=>b.fz c o kv (a.fz c o kv e)
 pre:=fun n x e=>b.pre n x (a.pre n x e)
 tr:=fun c o e=>by
  obtain⟨o1,e1,q1⟩:=a.tr c o e;obtain⟨o2,e2,q2⟩:=b.tr c o1 e1;exact⟨o2,e2,fun vs=>(q1 vs).trans (q2 vs)⟩
 new:=fun n x e l=>by
  by_cases hn:n < α1.length
  ·have e1:α1[n]?=some α1[n]:=List.getElem?_eq_getElem hn;have e2:=b.pre n _ e1;rw [e]at e2;cases e2;exact a.new n _ e1 l
  ·cases q:H x with
   | none=>exact .inl rfl
   | some o =>
    obtain⟨o1,e1,q1⟩:=a.tr x o q
    rcases b.new n x e (by omega)with z | ⟨vs,z⟩
    ·rw [e1]at z;cases z
    ·rw [e1]at z;cases z;exact .inr ⟨vs,congrArg some ((q1 vs).mpr rfl)⟩
 keep:=fun c o e hc=>by
  by_cases hm:c∈α1
  ·obtain⟨n,hn⟩:=List.getElem?_of_mem hm;by_cases l:n < α.length
   ·have e1:α[n]?=some α[n]:=List.getElem?_eq_getElem l;have:=a.pre n _ e1;rw [hn]at this;cases this;exact absurd (List.getElem_mem l) hc
   ·rcases a.new n c hn (by omega)with z | ⟨vs,z⟩
    ·rw [z]at e;cases e
    ·rw [e]at z;cases z;obtain⟨o1,e1,q1⟩:=a.tr c _ e;obtain⟨o2,e2,q2⟩:=b.tr c o1 e1;rw [e2,((q1 vs).trans (q2 vs)).mp rfl]
  ·exact b.keep c o (a.keep c o e hc) hm
theorem RO.trk{a:Addr}{o:O}(h:RO T A α H a o):∃x,H a=some x/\∀ob u,x≠.frz ob (.lst u):=by
 cases o with
 | lst xs=>obtain⟨vs,e,_⟩:=h;exact⟨_,e,fun _ _ z=>nomatch z⟩
 | tup xs=>obtain⟨vs,e,_⟩:=h;exact⟨_,e,fun _ _ z=>nomatch z⟩
 | ins c fs=>obtain⟨dx,fv,e,_⟩:=h;exact⟨_,e,fun _ _ z=>nomatch z⟩
 | dic _=>obtain⟨kv,e,_⟩:=h;exact⟨_,e,fun _ _ z=>nomatch z⟩
 | dct _=>obtain⟨kv,e,_⟩:=h;exact⟨_,e,fun _ _ z=>nomatch z⟩
 | fzd _=>obtain⟨kv,ob,e,_⟩:=h;exact⟨_,e,fun _ _ z=>nomatch z⟩
 | fzt _=>obtain⟨kv,ob,e,_⟩:=h;exact⟨_,e,fun _ _ z=>nomatch z⟩
 | err _=>obtain⟨e,_⟩:=h;exact⟨_,e,fun _ _ z=>nomatch z⟩
theorem RH.trk(R:RH T A α hs H){n:Nat}{a:Addr}(e:α[n]?=some a):∃o,hs[n]?=some o/\RO T A α H a o:=by
 have l:=getElem?_lt e;rw [R.len]at l;exact⟨hs[n],List.getElem?_eq_getElem l,R.ob n a _ e (List.getElem?_eq_getElem l)⟩
theorem RH.adr(R:RH T A α hs H){n:Nat}{o:O}(e:hs[n]?=some o):∃a,α[n]?=some a/\RO T A α H a o:=by
 have l:n<hs.length:=(List.getElem?_eq_some_iff.mp e).1;rw [<-R.len]at l;exact⟨α[n],List.getElem?_eq_getElem l,R.ob n _ _ (List.getElem?_eq_getElem l) e⟩
theorem RH.notIn(R:RH T A α hs H){p:Addr}(h:H p=none):p∉α:=fun m=>by
 obtain⟨n,e⟩:=List.getElem?_of_mem m;obtain⟨o,_,r⟩:=R.trk e;obtain⟨x,e,_⟩:=r.trk;rw [h]at e;cases e
theorem RH.nd_keep(R:RH T A α hs H)(k:∀b x,b∈α->H b=some x->H' b=some x):∀(i j:Nat) a,α[i]?=some a->α[j]?=some a->i=j\/∃vs,H' a=some (.tup vs):=fun i j a e1 e2 =>
 (R.nd i j a e1 e2).imp id fun⟨vs,q⟩=>⟨vs,k a _ (List.mem_of_getElem? e1) q⟩
theorem QdX{p:Addr}(h:∀(i j:Nat) a,α[i]?=some a->α[j]?=some a->i=j\/∃vs,H a=some (.tup vs))(n:p∉α):∀(i j:Nat) a,(α++[p])[i]?=some a->(α++[p])[j]?=some a->i=j\/∃vs,H a=some (.tup vs):=fun i j a e1 e2=>by
 have cs:∀{k:Nat},(α++[p])[k]?=some a->α[k]?=some a\/(k=α.length/\a=p):=fun {k} e=>by
  by_cases l:k < α.length
  ·rw [List.getElem?_append_left l]at e;exact .inl e
  ·rw [List.getElem?_append_right (by omega)]at e
   have:=(List.getElem?_eq_some_iff.mp e).1;simp at this
   have hk:k=α.length:=by omega
   subst hk;simp at e;exact .inr ⟨rfl,e.symm⟩
 rcases cs e1 with q1 | ⟨q1,w1⟩
 ·rcases cs e2 with q2 | ⟨q2,w2⟩
  ·exact h i j a q1 q2
  ·exact absurd (w2▸List.mem_of_getElem? q1) n
 ·rcases cs e2 with q2 | ⟨q2,w2⟩
  ·exact absurd (w1▸List.mem_of_getElem? q2) n
  ·exact .inl (q1.trans q2.symm)
theorem RO.keep{a:Addr}{o:O}(h:RO T A α H a o)(p:∀(n:Nat) a,α[n]?=some a->α'[n]?=some a)(k:∀x,H a=some x->H' a=some x):RO T A α' H' a o:=by
 cases o with
 | lst xs=>obtain⟨vs,e,r⟩:=h;exact⟨vs,k _ e,RUs.mono p r⟩
 | tup xs=>obtain⟨vs,e,r⟩:=h;exact⟨vs,k _ e,RUs.mono p r⟩
 | ins c fs=>obtain⟨dx,fv,e,r,l⟩:=h;exact⟨dx,fv,k _ e,RF.mono p r,l⟩
 | dic _=>obtain⟨kv,e,r⟩:=h;exact⟨kv,k _ e,RD.mono p r⟩
 | dct _=>obtain⟨kv,e,r⟩:=h;exact⟨kv,k _ e,RT.mono p r⟩
 | fzd _=>obtain⟨kv,ob,e,r⟩:=h;exact⟨kv,ob,k _ e,RD.mono p r⟩
 | fzt _=>obtain⟨kv,ob,e,r⟩:=h;exact⟨kv,ob,k _ e,RT.mono p r⟩
 | err _=>obtain⟨e,l⟩:=h;exact⟨k _ e,l⟩
theorem Scr.keep(h:Scr T A K H)(k:∀x,H A.s=some x->(∃o u,x=.frz o (.lst u))->H' A.s=some x):Scr T A K H':=by
 obtain⟨vs,r,q | q⟩:=h
 ·obtain⟨o,e⟩:=q;exact⟨vs,r,.inl ⟨o,k _ e ⟨_,_,rfl⟩⟩⟩
 ·exact⟨vs,r,.inr q⟩
theorem Scr.sq(h:Scr T A K H):∃vs,RUs A α T.scr vs/\SqL K H A.s vs:=by
 obtain⟨vs,r,q⟩:=h
 refine⟨vs,RUs.mono (fun n a e=>by simp at e) r,?_⟩
 rcases q with⟨o,e⟩ | q
 ·exact .inl (.inr ⟨o,e⟩)
 ·exact .inr q
theorem QG{p:Addr}:(α++[p])[α.length]?=some p:=by simp
theorem Qu{p:Addr}:∀(n:Nat) a,α[n]?=some a->(α++[p])[n]?=some a:=fun n a e=>by
 rw [List.getElem?_append_left (getElem?_lt e)];exact e
theorem Qv{β:Type}{l:List β}{p a:β}{n:Nat}(e:(l++[p])[n]?=some a):l[n]?=some a\/(n=l.length/\a=p):=by
 by_cases h:n<l.length
 ·rw [List.getElem?_append_left h]at e;exact .inl e
 ·rw [List.getElem?_append_right (by omega)]at e
  have:n-l.length=0:=by
   cases q:n-l.length with
   | zero=>rfl
   | succ k=>rw [q]at e;simp at e
  rw [this]at e;simp at e
  exact .inr ⟨by omega,e.symm⟩
theorem Rep.new{p:Addr}{o:O}{ho:HO}(R:Rep T A K α hs H)(hp:H p=none)(r:RO T A (α++[p]) (upd H p ho) p o):Rep T A K (α++[p]) (hs++[o]) (upd H p ho)/\Ext α (α++[p]) H (upd H p ho):=by
 have ne:∀b x,H b=some x->b≠p:=fun b x e z=>by rw [z,hp]at e;cases e
 refine⟨⟨⟨by simp [R.h.len],QdX (R.h.nd_keep fun b x _ e=>by rw [Qe (ne _ _ e)];exact e) (R.h.notIn hp),fun n a ob e1 e2=>?_⟩,R.s.keep fun x e _=>by rw [Qe (ne _ _ e)];exact e⟩,⟨Qu,fun n a e l=>?_,fun b x e _=>by rw [Qe (ne _ _ e)];exact e,fun b x kv e=>by rw [Qe (ne _ _ e)];exact e,fun b x e=>⟨x,by rw [Qe (ne _ _ e)];exact e,fun _=>Iff.rfl⟩⟩⟩
 ·rcases Qv e1 with q | ⟨q1,q2⟩
  ·rcases Qv e2 with z | ⟨z,_⟩
   ·exact RO.keep (R.h.ob n a ob q z) Qu fun x e=>by rw [Qe (ne _ _ e)];exact e
   ·have:=getElem?_lt q;rw [R.h.len]at this;omega
  ·subst q2
   rcases Qv e2 with z | ⟨_,z⟩
   ·have:=(List.getElem?_eq_some_iff.mp z).1;rw [<-R.h.len]at this;omega
   ·subst z;exact r
 ·rcases Qv e with q | ⟨_,q⟩
  ·have:=getElem?_lt q;omega
  ·rw [q];exact .inl hp
theorem Rep.put0{n:Nat}{a:Addr}{o:O}{ho:HO}(R:Rep T A K α hs H)(ha:α[n]?=some a)(r:RO T A α (upd H a ho) a o)(ht:∀vs,H a≠some (.tup vs):=by intro _ z;simp only [*,Option.some.injEq,reduceCtorEq]at z):Rep T A K α (hs.set n o) (upd H a ho):=by
 have ta:=R.h.trk ha;obtain⟨o0,_,r0⟩:=ta;obtain⟨x0,e0,nf⟩:=r0.trk
 have nd:∀(i j:Nat) c,α[i]?=some c->α[j]?=some c->i=j\/∃vs,upd H a ho c=some (.tup vs):=fun i j c e1 e2=>by
  rcases R.h.nd i j c e1 e2 with q | ⟨vs,q⟩
  ·exact .inl q
  ·exact .inr ⟨vs,by rw [Qe (fun(z:c=a)=>ht vs (z▸q))];exact q⟩
 refine⟨⟨by simp [R.h.len],nd,fun m b ob e1 e2=>?_⟩,R.s.keep fun x e z=>?_⟩
 ·by_cases hm:m=n
  ·subst hm;rw [ha]at e1;cases e1
   have l:m<hs.length:=by rw [<-R.h.len];exact getElem?_lt ha
   rw [List.getElem?_set_self l]at e2;cases e2;exact r
  ·rw [List.getElem?_set_ne (Ne.symm hm)]at e2
   have hb:b≠a:=fun z=>by
    rcases R.h.nd m n a (z▸e1) ha with q | ⟨vs,q⟩
    ·exact hm q
    ·exact ht vs q
   exact RO.keep (R.h.ob m b ob e1 e2) (fun _ _ e=>e) fun x e=>by rw [Qe hb];exact e
 ·obtain⟨ob,u,z⟩:=z
  have hb:A.s≠a:=fun q=>by rw [q,e0]at e;cases e;exact nf _ _ z
  rw [Qe hb];exact e
theorem Rep.put{n:Nat}{a:Addr}{o:O}{ho:HO}(R:Rep T A K α hs H)(ha:α[n]?=some a)(r:RO T A α (upd H a ho) a o)(hz:∀ob u,H a≠some (.frz ob u):=by intro _ _ z;simp only [*,Option.some.injEq,reduceCtorEq]at z)(ht:∀vs,H a≠some (.tup vs):=by intro _ z;simp only [*,Option.some.injEq,reduceCtorEq]at z)(hh:∀vs,ho≠.tup vs:=by intro _ z;cases z):Rep T A K α (hs.set n o) (upd H a ho)/\Ext α α H (upd H a ho):=by
 refine⟨R.put0 ha r ht,⟨fun _ _ e=>e,fun m b e l=>by have:=getElem?_lt e;omega,fun b x e hb=>?_,fun b ob kv e=>?_,fun b x e=>?_⟩⟩
 ·have hb':b≠a:=fun z=>hb (z▸List.mem_of_getElem? ha);rw [Qe hb'];exact e
 ·have hb':b≠a:=fun z=>hz ob kv (z▸e);rw [Qe hb'];exact e
 ·by_cases hb':b=a
  ·subst hb';exact⟨ho,Qf,fun vs=>⟨fun z=>absurd (z▸e) (ht vs),fun z=>absurd z (hh vs)⟩⟩
  ·exact⟨x,by rw [Qe hb'];exact e,fun _=>Iff.rfl⟩
theorem RS.get(R:RS A α ρ σ){i:Nat}{u:U}(e:ρ[i]?=some (some u)):∃v,σ[i]?=some (some v)/\RU A α u v:=R.val i u e
theorem RS.set(R:RS A α ρ σ)(i:Nat)(r:RU A α u v):RS A α (ρ.set i (some u)) (σ.set i (some v)):=by
 refine⟨by simp [R.len],fun j w e=>?_⟩
 by_cases h:j=i
 ·subst h
  have l:j < ρ.length:=by
   have:=(List.getElem?_eq_some_iff.mp e).1;simpa using this
  rw [List.getElem?_set_self l]at e;cases e
  exact⟨v,List.getElem?_set_self (by rw [<-R.len];exact l),r⟩
 ·rw [List.getElem?_set_ne (Ne.symm h)]at e;rw [List.getElem?_set_ne (Ne.symm h)];exact R.val j w e
end
noncomputable def flE(A:Adr)(α:List Addr)(D:Ends)(σ:St)(H:Hp):Fl->Prop
 | .next=>D.nx σ H
 | .brk=>D.bk σ H
 | .cont=>D.ct σ H
 | .ret u=>∀v,RU A α u v->D.rt v H
section
variable (T:Tbl)(A:Adr)(K:PySem.W.Frag)
noncomputable def TI(f:Rho->Hs->Option (U×Hs)):TE:=fun σ H Q=>∃α ρ hs u hs',RS A α ρ σ/\Rep T A K α hs H/\f ρ hs=some (u,hs') /\
 ∀α' v H',Ext α α' H H'->Rep T A K α' hs' H'->RU A α' u v->Q v H'
noncomputable def TIT(f:Rho->Hs->Option (Bool×Hs)):TT:=fun σ H Q=>∃α ρ hs u hs',RS A α ρ σ/\Rep T A K α hs H/\f ρ hs=some (u,hs') /\
 ∀α' H',Ext α α' H H'->Rep T A K α' hs' H'->Q u H'
noncomputable def TIA(f:Rho->Hs->Option (List U×Hs)):TA:=fun σ H Q=>∃α ρ hs us hs',RS A α ρ σ/\Rep T A K α hs H/\f ρ hs=some (us,hs') /\
 ∀α' vs H',Ext α α' H H'->Rep T A K α' hs' H'->RUs A α' us vs->Q vs H'
noncomputable def TIS(f:Ex):TS:=fun D σ H=>∃α ρ hs fl ρ' hs',RS A α ρ σ/\Rep T A K α hs H/\f ρ hs=some (fl,ρ',hs') /\
 ∀α' σ' H',Ext α α' H H'->Rep T A K α' hs' H'->RS A α' ρ' σ'->flE A α' D σ' H' fl
end
section
variable {T:Tbl}{A:Adr}{K:PySem.W.Frag}{α:List Addr}{ρ:Rho}{σ:St}{hs h1:Hs}{H:Hp}
theorem TI.run{f:Rho->Hs->Option (U×Hs)}{u:U}{Q:VK}(rs:RS A α ρ σ)(rp:Rep T A K α hs H)(h:f ρ hs=some (u,h1))
  (k:∀α1 v H1,Ext α α1 H H1->Rep T A K α1 h1 H1->RU A α1 u v->RS A α1 ρ σ->Q v H1):TI T A K f σ H Q :=
 ⟨α,ρ,hs,u,h1,rs,rp,h,fun α1 v H1 e r q=>k α1 v H1 e r q (rs.mono e.pre)⟩
theorem TIT.run{f:Rho->Hs->Option (Bool×Hs)}{u:Bool}{Q:Bool->Hp->Prop}(rs:RS A α ρ σ)(rp:Rep T A K α hs H)(h:f ρ hs=some (u,h1))
  (k:∀α1 H1,Ext α α1 H H1->Rep T A K α1 h1 H1->RS A α1 ρ σ->Q u H1):TIT T A K f σ H Q :=
 ⟨α,ρ,hs,u,h1,rs,rp,h,fun α1 H1 e r=>k α1 H1 e r (rs.mono e.pre)⟩
theorem TIA.run{f:Rho->Hs->Option (List U×Hs)}{us:List U}{Q:List V->Hp->Prop}(rs:RS A α ρ σ)(rp:Rep T A K α hs H)(h:f ρ hs=some (us,h1))
  (k:∀α1 vs H1,Ext α α1 H H1->Rep T A K α1 h1 H1->RUs A α1 us vs->RS A α1 ρ σ->Q vs H1):TIA T A K f σ H Q :=
 ⟨α,ρ,hs,us,h1,rs,rp,h,fun α1 v H1 e r q=>k α1 v H1 e r q (rs.mono e.pre)⟩
end
section
variable {X:Cx}
theorem QR{e:Expr}{t t':TE}(h:PE X e t)(i:∀σ H Q,t' σ H Q->t σ H Q):PE X e t':=fun pins s σ H Q I q=>h pins s σ H Q I (i σ H Q q)
theorem Qju{e:Expr}{t t':TT}(h:PT X e t)(i:∀σ H Q,t' σ H Q->t σ H Q):PT X e t':=fun pins s σ H Q I q=>h pins s σ H Q I (i σ H Q q)
theorem Ql1{e:Expr}{t t':TT}(h:PW X e t)(i:∀σ H Q,t' σ H Q->t σ H Q):PW X e t':=fun wh pins s σ H Q I q=>h wh pins s σ H Q I (i σ H Q q)
theorem Ql2{es:List Expr}{t t':TA}(h:PA X es t)(i:∀σ H Q,t' σ H Q->t σ H Q):PA X es t':=fun pos pins s σ H Q I q=>h pos pins s σ H Q I (i σ H Q q)
theorem Z7{st:Stmt}{t t':TS}(h:PS X st t)(i:∀D σ H,t' D σ H->t D σ H):PS X st t':=fun pins s σ H D I q=>h pins s σ H D I (i D σ H q)
theorem Qhn{st:List Stmt}{t t':TS}(h:PSs X st t)(i:∀D σ H,t' D σ H->t D σ H):PSs X st t':=fun pins s σ H D I q=>h pins s σ H D I (i D σ H q)
end
end Iv
namespace Iv
open PySem PySem.Spec PyProof.Rows L2
noncomputable def tyV:Ty->String
 | .non=>"NoneType" | .bool=>"bool" | .int=>"int" | .str=>"str" | .list=>"list" | .tuple=>"tuple" | .dict=>"dict" | .cls _=>"object" | .vale=>"ValueError"
noncomputable def tyW(A:Adr):Ty->Value
 | .cls c=>.ref (A.c c)
 | t=>.type (tyV t)
structure ClOk(T:Tbl)(A:Adr)(K:PySem.W.Frag)(i:Nat)(C:Cl):Prop where
 cls:Cls K (A.c i)
 nf:∀x∈T.fns',Ql3 K (A.c i) x
 me:∀m f,C.meths.lookup m=some f->∃x,T.mns[m]?=some x/\Meth K (A.c i) x (A.f f)
 mks:PySem.W.makesIn K (A.c i)=true
 kp:PySem.W.keepIn K (.ref (A.c i))=true
 ini:match C.init with
  | some f => PySem.W.findIn K (.ref (A.c i)) "__init__" = some (some (.ref (A.f f))) /\ PySem.W.isFn K (.ref (A.f f)) = true
  | none=>PySem.W.findIn K (.ref (A.c i)) "__init__"=some (some (.builtin "object.__init__"))
 ty:∀(H:Hp) (a dx:Addr) (fs:List (Str×V)),H a=some (.ins (A.c i) dx fs)->TyOf K H (.ref a) (.ref (A.c i))
structure FunD(K:PySem.W.Frag)(x qual:Str)(st:Stmt)(f:Addr)(fd:FuncData):Prop where
 ex:∃(oc:Value) (od:Option Addr) (dV kV doc pm:Value) (an:Option Addr) (cdv ct:Value) (osl:Array (Option Value)),
  fd=PySem.W.fnOf x qual (Qm st) (Qk st) (Qb st) dV kV doc pm an cdv ct/\K.lookup f=some ⟨oc,od,.func fd,osl⟩/\PySem.W.codeIn K cdv qual=true
 kp:PySem.W.keepIn K (.ref f)=true
theorem FunD.ok{P:Program}{w:World}{K:PySem.W.Frag}{mg:Str->Option Value}{base:Heap}{x qual:Str}{st:Stmt}{f:Addr}{fd:FuncData}{N ps:List Str}{k:Nat}{sp:Sp}(F:FunD K x qual st f fd)(S:FnScope N ps (Qb st))(len:∀vs H Q E,sp vs H Q E->vs.length=ps.length)
  (hbody:∀(cdv:Value) (A:Around) (outer:List Env) (s:Shared) (H:Hp) (vs:List V) (Q:VK) (E:XK),Room k (A.deeper (envOfC qual (Qb st) s.heap.objs.size f cdv))->sp vs H Q E ->
   ∃t,PSs (Qhh CX0 P w K mg base N qual (Qb st) f cdv A outer s H E).nox (Qk st) t/\t { nx:=fun _ H'=>Q .non H',rt:=Q } (start N vs) H):FnOk P w K mg base CX0 (k+1) f fd ps sp:=by
 obtain⟨oc,od,dV,kV,doc,pm,an,cdv,ct,osl,rfl,lk,hcd⟩:=F.ex;refine QnG lk hcd S len fun A outer s H vs Q E hr hsp=>?_;obtain⟨t,h,q⟩:=hbody cdv A outer s H vs Q E hr hsp;exact⟨t,h.nox,q⟩
theorem FunD.same{K:PySem.W.Frag}{x y q q':Str}{st st':Stmt}{f:Addr}{fd fd':FuncData}(a:FunD K x q st f fd)(b:FunD K y q' st' f fd'):fd=fd':=by
 obtain⟨_,_,_,_,_,_,_,_,_,_,_,l1,_⟩:=a.ex;obtain⟨_,_,_,_,_,_,_,_,_,_,_,l2,_⟩:=b.ex;rw [l1]at l2;cases l2;rfl
noncomputable def kg{β:Type}(us ws:List β):List β:=us++ws.take 1
noncomputable def Qmk(A:Adr)(K:PySem.W.Frag)(fd:FuncData)(D:Df):Prop:=∃(ds:List Value) (dvs:List V),RUs A [] D.ds dvs/\Vals dvs ds/\(∀n,Binds K fd D.ps (ds.drop n))/\KBinds K fd D.ps [D.last] kg kg
structure Txt(T:Tbl)(A:Adr)(K:PySem.W.Frag)(mg:Str->Option Value):Prop where
 fn:∀i F,T.fns[i]?=some F->∃fd,FunD K F.name F.qual F.st (A.f i) fd/\Binds K fd F.ps []/\FnScope F.N F.ps (Qb F.st)/\F.ps.length=F.np/\F.N.length=F.nN
 df:∀i D,T.dfl.lookup i=some D->∃fd x q st,FunD K x q st (A.f i) fd/\Qmk A K fd D/\∀F,T.fns[i]?=some F->F.ps=D.ps/\F.np=D.np
 cl:∀i C,T.cls[i]?=some C->ClOk T A K i C
 fm:∀x∈T.fns',x∉T.mns
 fd:T.fns'.Nodup
 isi:∀k t b,T.isi.lookup (k,t)=some b->PySem.W.kitOne K (tyW A k) (tyW A t)=some b
 co:∀k c,T.cons[k]?=some c->match c with
  | Co.tup xs=>∃vs,RUs A [] xs vs/\∀H,SqT K H (A.k k) vs
  | Co.lst xs=>∃vs,RUs A [] xs vs/\∀H,SqL K H (A.k k) vs
  | Co.tab _=>True
 er : ∀ c, T.ers.contains c = true -> ErrCls K (A.c c) /\ PySem.W.excIn K (A.c c) QjO "ValueError.__new__" = true
 es:∀c c',T.esb.contains (c,c')=true->PySem.W.exmOne K (.ref (A.c c)) (.ref (A.c c'))=some true
noncomputable def QiQ:U->Key->Prop
 | .int i 0,k=>k=.inl i
 | .str x,k=>k=.inr ⟨x.toArray⟩
 | _,_=>False
noncomputable def Qbq(P:Program)(w:World)(T:Tbl)(A:Adr)(K:PySem.W.Frag):Prop:=∀k kvs,T.cons[k]?=some (.tab kvs) ->
 ∃vs:List (Key×Value),(A.k k==sysModules)=false/\(∀h:Heap,K.In h->h.DictOf (Qq P w) (A.k k) vs)/\Paired (fun(p:U×U) (q:Key×Value)=>QiQ p.1 q.1/\∃v,RU A [] p.2 v/\RelV v q.2) kvs vs
structure GX(T:Tbl)(A:Adr)(C:Ctx)(X:Cx):Prop where
 CT:C.T=T
 N:X.N=C.N
 nd:X.N.Nodup
 sc:X.env.scope.names=C.names
 calm:X.calm=true
 kind:X.env.scope.kind=.function
 xe:X.xe=fun _ _=>False
 gfn:∀x i,C.gl.lookup x=some (.fn i)->X.mg x=some (.ref (A.f i))
 gcl:∀x i,C.gl.lookup x=some (.cls i)->X.mg x=some (.ref (A.c i))
 gco:∀x k,C.gl.lookup x=some (.con k)->X.mg x=some (.ref (A.k k))
 gtx:∀x t,C.gl.lookup x=some (.txt t)->∃k,X.mg x=some (.str ⟨t.toArray⟩ k)
 blt:∀x,¬C.bl.contains x=false->X.mg x=none
 txt:Txt T A X.K X.mg
 tab:Qbq X.prog X.w T A X.K
noncomputable def spC(T:Tbl)(A:Adr)(K:PySem.W.Frag)(cf:Cf)(f:Nat):Sp:=fun vs H Q _=>∃α us hs u hs',RUs A α us vs/\Rep T A K α hs H/\cf f us hs=some (u,hs')/\(∃F,T.fns[f]?=some F/\us.length=F.np) /\
 ∀α' v H',Ext α α' H H'->Rep T A K α' hs' H'->RU A α' u v->Q v H'
noncomputable def spX(T:Tbl)(A:Adr)(K:PySem.W.Frag)(xf:Nat->List U->Hs->Option (Nat×Hs))(f:Nat):Sp:=fun vs H _ E=>∃α us hs c hs',RUs A α us vs/\Rep T A K α hs H/\xf f us hs=some (c,hs')/\(∃F,T.fns[f]?=some F/\us.length=F.np) /\
 ∀α' H',Ext α α' H H'->Rep T A K α' hs' H'->E (.ref (A.c c)) none H'
theorem Zl{x:Str}:∀{N:List Str} {i:Nat},idx x N=some i->N[i]?=some x
 | [],_,h=>by simp [idx]at h
 | y::r,i,h=>by
  unfold idx at h;split at h
  ·rename_i e;cases h;simp [e]
  ·cases q:idx x r with
   | none=>rw [q]at h;cases h
   | some j =>
    rw [q]at h;cases h;simpa using Zl q
theorem QjN{T:Tbl}{A:Adr}{C:Ctx}{X:Cx}{x:Str}(g:GX T A C X)(h:Qge C x=true):Vis X.env.scope x:=by
 unfold Qge at h;unfold Vis;rw [g.sc];split at h<;>simp_all
theorem Qao{T:Tbl}{A:Adr}{C:Ctx}{X:Cx}{x:Str}(g:GX T A C X)(h:Qba C x=true):L2.Loc X.env.scope x:=by
 unfold Qba at h;unfold L2.Loc;rw [g.sc];split at h<;>simp_all
theorem Zf{T:Tbl}{A:Adr}{C:Ctx}{X:Cx}{x:Str}(g:GX T A C X)(h:Y8 C x=true):Gl X x:=by
 unfold Y8 at h;show X.env.scope.names.lookup x=some .globalImplicit;rw [g.sc];split at h
 ·assumption
 ·cases h
theorem Zd{x y:Str}(h:x≠y):(x==y)=false:=by simpa using h
theorem Ye{o:Expr}{f:Str}{env:Env}{w:Sem Value}(h:YM o=true):attributeBase o f env w=w:=by
 unfold attributeBase;split
 ·cases h
 ·rfl
theorem Jf{b:Expr}(h:ZC b=true):Qfb b:=by
 intro o i
 cases b<;>first | rfl | cases h
theorem Qt{e:Expr}{es:List Expr}{env:Env}(h:∀x p,e≠.Starred x p):starEach (e::es) env=(false,eval e env)::starEach es env:=by
 cases e<;>first | rfl | exact absurd rfl (h _ _)
noncomputable def QaK(es:List Expr):Prop:=∀e∈es,∀x p,e≠.Starred x p
theorem Zy{env:Env}{pos:Pos}:∀{es:List Expr},QaK es->(backTo pos (starEach es env)).any (·.1)=false
 | [],_=>rfl
 | e::r,h=>by
  rw [Qt (h e (List.mem_cons_self ..))];have ih:=Zy (env:=env) (pos:=pos) (es:=r) fun x hx=>h x (List.mem_cons_of_mem _ hx);unfold backTo at ih ⊢;rw [List.map_cons,List.any_cons,ih];rfl
theorem QD{m:Nat}{C:Ctx}{e:Expr}{ir:E}(h:Qh m C e=some ir):∀x p,e≠.Starred x p:=by
 rintro x p rfl
 cases m<;>first | exact nomatch (show(none:Option E)=some _ from h) | simp [Qh]at h
theorem QE{C:Ctx}:∀{m:Nat} {es:List Expr} {irs:List E},compA m C es=some irs->QaK es
 | 0,_,_,h=>by simp [compA]at h
 | m+1,[],_,_=>fun _ h=>nomatch h
 | m+1,e::r,irs,h=>by
  simp only [compA,Option.bind_eq_some_iff]at h;obtain⟨e',he,r',hr,_⟩:=h;intro x hx
  rcases List.mem_cons.mp hx with rfl | hx
  ·exact QD he
  ·exact QE hr x hx
section
variable {T:Tbl}{A:Adr}{K:PySem.W.Frag}{α:List Addr}{hs hs':Hs}{H:Hp}{u w:U}{v y:V}
theorem RUs.length{us:List U}{vs:List V}(r:RUs A α us vs):us.length=vs.length:=Paired.length r
theorem RUs.get:∀{us:List U} {vs:List V} {i:Nat} {u:U},RUs A α us vs->us[i]?=some u->∃v,vs[i]?=some v/\RU A α u v
 | _,_,_,_,.nil,e=>by simp at e
 | _,_,0,_,.cons r _,e=>by simp at e;subst e;exact⟨_,rfl,r⟩
 | _,_,i+1,u,.cons _ t,e=>by
  obtain⟨v,h1,h2⟩:=RUs.get (i:=i) (u:=u) t (by simpa using e)
  exact⟨v,by simpa using h1,h2⟩
theorem RUs.append:∀{us ws:List U} {vs ys:List V},RUs A α us vs->RUs A α ws ys->RUs A α (us++ws) (vs++ys)
 | _,_,_,_,.nil,s=>s
 | _,_,_,_,.cons r t,s=>.cons r (RUs.append t s)
theorem YF{xs:List U}{K':PySem.W.Frag}{mg:Str->Option Value}(tx:Txt T A K mg)(R:Rep T A K α hs H)(h:ZN T u hs=some xs)(r:RU A α u v):∃a vs,v=.ref a/\RUs A α xs vs/\(SqL K H a vs\/SqT K H a vs):=by
 cases u with
 | ref n =>
  obtain⟨a,ha,rfl⟩:=r;simp only [ZN]at h;split at h
  ·rename_i ys e;cases h;obtain⟨vs,q,rr⟩:=R.h.ob n a _ ha e;exact⟨a,vs,rfl,rr,.inl (SqL.of q)⟩
  ·rename_i ys e;cases h;obtain⟨vs,q,rr⟩:=R.h.ob n a _ ha e;exact⟨a,vs,rfl,rr,.inr (SqT.of q)⟩
  ·cases h
 | con k =>
  simp only [ZN]at h;split at h
  ·rename_i ys e;cases h;obtain⟨vs,rr,q⟩:=tx.co k _ e
   exact⟨_,vs,r,RUs.mono (fun n a e=>by simp at e) rr,.inl (q H)⟩
  ·rename_i ys e;cases h;obtain⟨vs,rr,q⟩:=tx.co k _ e
   exact⟨_,vs,r,RUs.mono (fun n a e=>by simp at e) rr,.inr (q H)⟩
  ·cases h
 | scr =>
  simp only [ZN]at h;cases h;obtain⟨vs,rr,q⟩:=R.s.sq (α:=α);exact⟨_,vs,r,rr,.inl q⟩
 | _=>simp [ZN]at h
theorem Zx(x:List Nat):({ cps:=x.toArray }:Str).length=x.length:=by simp [Str.length]
theorem big:(1000000:Nat)<=sizeLine:=by decide
theorem Qdd{b:Bool}{mg:Str->Option Value}(tx:Txt T A K mg)(R:Rep T A K α hs H)(h:Zj T u hs=some b)(r:RU A α u v):Ql0 K v H b:=by
 have sq:∀{xs:List U},ZN T u hs=some xs->b=!xs.isEmpty->Ql0 K v H b:=fun {xs} e1 e2=>by
  obtain⟨a,vs,rfl,rr,q⟩:=YF (K':=K) tx R e1 r
  have e3:b=!vs.isEmpty:=by
   rw [e2];cases rr<;>rfl
  rcases q with q | q
  ·exact .inl ⟨vs,q,e3⟩
  ·exact .inr (.inl ⟨vs,q,e3⟩)
 cases u with
 | non=>simp only [Zj]at h;cases h;cases r;rfl
 | bl c=>simp only [Zj]at h;cases h;cases r;rfl
 | int i m =>
  cases m with
  | zero =>
   simp only [Zj]at h;cases h;obtain⟨j,rfl,c⟩:=r;cases c.exact;show decide (i≠0)=(i != 0);by_cases q:i=0<;>simp [q]
  | succ m=>simp [Zj,ZN]at h
 | str x =>
  simp only [Zj]at h;split at h
  ·rename_i l;cases h;cases(show v=.str ⟨x.toArray⟩from r)
   refine⟨by rw [Zx];exact Nat.le_trans l big,?_⟩
   rw [Zx];cases x<;>simp;omega
  ·cases h
 | ref n =>
  simp only [Zj,Option.map_eq_some_iff]at h;obtain⟨xs,e1,e2⟩:=h;exact sq e1 e2.symm
 | con n =>
  simp only [Zj,Option.map_eq_some_iff]at h;obtain⟨xs,e1,e2⟩:=h;exact sq e1 e2.symm
 | scr =>
  simp only [Zj,Option.map_eq_some_iff]at h;obtain⟨xs,e1,e2⟩:=h;exact sq e1 e2.symm
end
end Iv
namespace Iv
open PySem PySem.Spec PyProof.Rows L2
theorem Qhk{i' i j' j:Int}{m n:Nat}(a:Cg i' i m)(b:Cg j' j n):Cg (i'+j') (i+j) (gz m n):=by
 obtain⟨p,rfl⟩:=a;obtain⟨q,rfl⟩:=b
 cases m with
 | zero=>exact⟨q,by simp [gz];omega⟩
 | succ m =>
  obtain⟨x,hx⟩:=Nat.gcd_dvd_left (m+1) n;obtain⟨y,hy⟩:=Nat.gcd_dvd_right (m+1) n;refine⟨x*p+y*q,?_⟩
  have e1:((m+1:Nat):Int)=(Nat.gcd (m+1) n:Int)*(x:Int):=by
   have:=congrArg (fun z:Nat=>(z:Int)) hx;simpa using this
  have e2:(n:Int)=(Nat.gcd (m+1) n:Int)*(y:Int):=by
   have:=congrArg (fun z:Nat=>(z:Int)) hy;simpa using this
  show i+((m+1:Nat):Int)*p+(j+(n:Int)*q)=i+j+(Nat.gcd (m+1) n:Int)*(x*p+y*q);rw [Int.mul_add,<-Int.mul_assoc,<-Int.mul_assoc,<-e1,<-e2];omega
theorem Qhj{i' i:Int}{m:Nat}(a:Cg i' i m):Cg (-i') (-i) m:=by
 obtain⟨p,rfl⟩:=a
 exact⟨-p,by rw [Int.mul_neg];omega⟩
theorem QlE{i' i j' j:Int}{m n:Nat}(a:Cg i' i m)(b:Cg j' j n):Cg (i'-j') (i-j) (gz m n):=by
 have:=Qhk a (Qhj b);rw [Int.sub_eq_add_neg,Int.sub_eq_add_neg];exact this
theorem QlF{i' i j:Int}{m:Nat}(a:Cg i' i m):Cg (i'*j) (i*j) (m*j.natAbs):=by
 obtain⟨p,rfl⟩:=a
 rcases Int.natAbs_eq j with e | e
 ·refine⟨p,?_⟩;rw [Int.add_mul,Int.natCast_mul,<-e,Int.mul_right_comm]
 ·refine⟨-p,?_⟩
  have e':(j.natAbs:Int)=-j:=by omega
  rw [Int.add_mul,Int.natCast_mul,e',Int.mul_neg,Int.mul_neg,Int.neg_mul,Int.neg_neg,Int.mul_right_comm]
theorem QlH{i' i j:Int}{m:Nat}(a:Cg i' i m)(hj:0<j)(hd:m % j.toNat=0):Cg (i' / j) (i / j) (m / j.toNat):=by
 obtain⟨p,rfl⟩:=a
 have e:(m:Int)=j*((m / j.toNat:Nat):Int):=by
  have h:=Nat.div_add_mod m j.toNat;rw [hd,Nat.add_zero]at h;have h2:=congrArg (fun z:Nat=>(z:Int)) h
  have h3:((j.toNat:Nat):Int)=j:=by omega
  simp only [Int.natCast_mul,h3]at h2;exact h2.symm
 refine⟨p,?_⟩
 rw [e,Int.mul_assoc,Int.add_mul_ediv_left _ _ (by omega)]
theorem QlG{i' i j:Int}{m:Nat}(a:Cg i' i m)(hj:0<j)(hd:m % j.toNat=0):i' % j=i % j:=by
 obtain⟨p,rfl⟩:=a
 have e:(m:Int)=j*((m / j.toNat:Nat):Int):=by
  have h:=Nat.div_add_mod m j.toNat;rw [hd,Nat.add_zero]at h;have h2:=congrArg (fun z:Nat=>(z:Int)) h
  have h3:((j.toNat:Nat):Int)=j:=by omega
  simp only [Int.natCast_mul,h3]at h2;exact h2.symm
 rw [e,Int.mul_assoc,Int.add_mul_emod_self_left]
theorem QW{i:Int}(h:Qp i=true):-(2 ^ 64) < i/\i<2 ^ 64:=by
 unfold Qp at h;rw [Bool.and_eq_true,decide_eq_true_eq,decide_eq_true_eq]at h;exact h
theorem QhL(x y:List Nat):({ cps:=x.toArray }:Str)++({ cps:=y.toArray }:Str)={ cps:=(x++y).toArray }:=by
 show Str.append _ _=_;simp [Str.append]
noncomputable def OpS(X:Cx)(T:Tbl)(A:Adr)(o:Operator):Prop:=∃r,OpR X (binaryOp o) r/\∀{α:List Addr} {u w u':U} {hs hs':Hs} {v y:V} {H:Hp} {Q:VK},opU o u w hs=some (u',hs')->RU A α u v->RU A α w y->Rep T A X.K α hs H ->
 (∀α' v' H',Ext α α' H H'->Rep T A X.K α' hs' H'->RU A α' u' v'->Q v' H')->r v y H Q
section
variable {X:Cx}{T:Tbl}{A:Adr}
theorem Qf5{o:Operator}(h:∀u w hs,opU o u w hs=none):OpS X T A o:=⟨fun _ _ _ _=>False,fun _ _ _ _ _ _ _ _ _ _ _ _ h=>h.elim,fun e=>by rw [h]at e;cases e⟩
theorem QbR{o:Operator}{f:U->U->Option U}{r:R2}(ho:OpR X (binaryOp o) r)(hf:∀u w hs,opU o u w hs=(f u w).map fun z=>(z,hs))
  (h:∀{α:List Addr} {u w z:U} {v y:V} {H:Hp} {Q:VK},f u w=some z->RU A α u v->RU A α w y->(∀v',RU A α z v'->Q v' H)->r v y H Q):OpS X T A o:=by
 refine⟨r,ho,?_⟩;intro α u w u' hs hs' v y H Q e ru rw R k;rw [hf,Option.map_eq_some_iff]at e;obtain⟨z,e,q⟩:=e;cases q;exact h e ru rw fun v' r'=>k α v' H Ext.refl R r'
theorem Q0{α:List Addr}{i:Int}{v:V}(r:RU A α (.int i 0) v):v=.int i:=by
 obtain⟨j,rfl,c⟩:=r;cases c.exact;rfl
theorem Qiu:OpS X T A .Sub:=QbR QkR (fun _ _ _=>rfl) fun {α u w z v y H Q} h ru rw k=>by
 unfold QhI at h;split at h
 ·cases h;obtain⟨i',rfl,a⟩:=ru;obtain⟨j',rfl,b⟩:=rw;exact⟨i',j',rfl,rfl,k _ ⟨_,rfl,QlE a b⟩⟩
 ·cases h
theorem Qis:OpR X (binaryOp .Mult) (rI IntMulOk fun i j=>.int (i*j)):=opI fun _ _ _ _ _ _ _ hc q=>mul_int q hc
theorem Qe7{i:Int}(h:Qe8 i=true):Builtin.Int.intBits i<=4096:=by
 have h:=of_decide_eq_true h;unfold Builtin.Int.intBits;split
 ·omega
 ·rename_i z
  have n0:i.natAbs≠0:=by simpa using z
  exact Nat.succ_le_of_lt ((Nat.log2_lt n0).mpr h)
theorem Qlc{i j:Int}(h:(Qp i||Qp j||(Qe8 i&&Qe8 j))=true):IntMulOk i j:=by
 rw [Bool.or_eq_true,Bool.or_eq_true,Bool.and_eq_true]at h
 rcases h with(h | h) | h
 ·exact CMul.ok (.inl (QW h))
 ·exact CMul.ok (.inr (QW h))
 ·have h1:=Qe7 h.1;have h2:=Qe7 h.2;unfold IntMulOk
  have:Builtin.Int.intTooBig (Builtin.Int.intBits i+Builtin.Int.intBits j)=false:=by
   unfold Builtin.Int.intTooBig;rw [bitsLine_eq]
   exact decide_eq_false (by omega)
  rw [this];simp
theorem RUs.rep{α:List Addr}{us:List U}{vs:List V}(r:RUs A α us vs):∀n:Nat,RUs A α (List.replicate n us).flatten (List.replicate n vs).flatten
 | 0=>.nil
 | n+1=>by
  rw [List.replicate_succ,List.replicate_succ,List.flatten_cons,List.flatten_cons];exact RUs.append r (RUs.rep r n)
theorem Qiw:OpS X T A .Mult:=by
 refine⟨_,OpR.or Qis QkS,?_⟩;intro α u w u' hs hs' v y H Q e ru rw R k;by_cases isr:∃a,u=.ref a
 ·obtain⟨a,rfl⟩:=isr;simp only [opU]at e;unfold Qoo at e;split at e
  ·rename_i xs j e1;split at e
   ·rename_i c;cases e;cases Q0 rw;obtain⟨pa,ha,rfl⟩:=ru;obtain⟨vs,q1,r1⟩:=R.h.ob _ pa _ ha e1;refine .inr ⟨pa,j,vs,rfl,rfl,q1,c.1,c.2.1,?_,fun p hp=>?_⟩
    ·rw [<-r1.length];exact Nat.le_trans c.2.2 big
    ·obtain⟨R',E'⟩:=R.new (o:=.lst (List.replicate j.toNat xs).flatten) hp ⟨_,Qf,RUs.mono Qu (r1.rep j.toNat)⟩
     exact k _ _ _ E' R' ⟨p,by rw [<-R.h.len];exact QG,rfl⟩
   ·cases e
  ·cases e
 have e:(Qld u w).map (fun r=>(r,hs))=some (u',hs'):=by
  cases u with
  | ref a=>exact absurd ⟨a,rfl⟩ isr
  | _=>exact e
 rw [Option.map_eq_some_iff]at e;obtain⟨z,h,q⟩:=e;cases q;refine .inl ?_;have k:∀v',RU A α u' v'->Q v' H:=fun v' r'=>k α v' H Ext.refl R r';unfold Qld at h;split at h
 ·split at h
  ·rename_i c;cases h;cases Q0 ru;cases Q0 rw;exact⟨_,_,rfl,rfl,Qlc c,k _ ⟨_,rfl,Cg.refl _ _⟩⟩
  ·cases h
 ·split at h
  ·rename_i c;cases h;obtain⟨i',rfl,a⟩:=ru;cases Q0 rw;exact⟨i',_,rfl,rfl,CMul.ok (.inr (QW c)),k _ ⟨_,rfl,QlF a⟩⟩
  ·cases h
 ·cases h
noncomputable def Qoc(i j:Int):Prop:=0<j/\j<1606938044258990275541962092341162602522202993782792835301376
theorem Qf3{X:Cx}:OpR X (binaryOp .FloorDiv) (rI Qoc fun i j=>.int (i / j)):=opI fun i j _ _ _ _ _ hc q=>by
 have h1:(0:Int) < j:=hc.1;have h2:j<1606938044258990275541962092341162602522202993782792835301376:=hc.2
 have h3:j.natAbs.log2<9000:=by
  have h4:j.natAbs<2 ^ 9000:=Nat.lt_of_lt_of_le (show j.natAbs<2 ^ 200 by omega) (Nat.pow_le_pow_right (by decide) (by decide))
  rcases Nat.eq_zero_or_pos j.natAbs with z | z
  ·rw [z];decide
  ·exact(Nat.log2_lt (by omega)).mpr h4
 exact floordiv_int (by omega) (by rw [Int.fdiv_eq_ediv_of_nonneg i (by omega)];exact q) (.inl (PyProof.noPylong_of_log2 h3))
theorem Qf6:OpS X T A .FloorDiv:=QbR Qf3 (fun _ _ _=>rfl) fun {α u w z v y H Q} h ru rw k=>by
 unfold Qcf at h;split at h
 ·split at h
  ·rename_i c;cases h;cases Q0 ru;cases Q0 rw;simp only [Bool.and_eq_true,decide_eq_true_eq]at c;exact⟨_,_,rfl,rfl,c,k _ ⟨_,rfl,Cg.refl _ _⟩⟩
  ·cases h
 ·split at h
  ·rename_i c;cases h;obtain⟨i',rfl,a⟩:=ru;cases Q0 rw;simp only [Bool.and_eq_true,decide_eq_true_eq]at c;exact⟨i',_,rfl,rfl,c.1,k _ ⟨_,rfl,QlH a c.1.1 c.2⟩⟩
  ·cases h
 ·cases h
theorem Qix:OpS X T A .Mod:=QbR QkX (fun _ _ _=>rfl) fun {α u w z v y H Q} h ru rw k=>by
 unfold Qle at h;split at h
 ·split at h
  ·rename_i c;cases h;cases Q0 ru;cases Q0 rw;exact⟨_,_,rfl,rfl,c,k _ ⟨_,rfl,Cg.refl _ _⟩⟩
  ·cases h
 ·split at h
  ·rename_i c;cases h;obtain⟨i',rfl,a⟩:=ru;cases Q0 rw;simp only [Bool.and_eq_true,decide_eq_true_eq]at c
   exact⟨i',_,rfl,rfl,c.1,k _ ⟨_,rfl,by rw [QlG a c.1 c.2];exact Cg.refl _ _⟩⟩
  ·cases h
 ·cases h
theorem Qiv:OpS X T A .Pow:=QbR QkT (fun _ _ _=>rfl) fun {α u w z v y H Q} h ru rw k=>by
 unfold Qoy at h;split at h
 ·split at h
  ·rename_i i j c;cases h;cases Q0 ru;cases Q0 rw;simp only [Bool.and_eq_true,decide_eq_true_eq]at c;obtain⟨h1,h2⟩:=QW c.2
   exact⟨_,_,rfl,rfl,⟨c.1.1,by omega,by omega⟩,k _ ⟨_,rfl,Cg.refl _ _⟩⟩
  ·cases h
 ·cases h
theorem Qiy:OpS X T A .Add:=by
 refine⟨_,OpR.or Qk4 (OpR.or QcC (OpR.or Qk3 (OpR.or Qf4 Qit))),?_⟩;intro α u w u' hs hs' v y H Q h ru rw R k;have h:Qc0 u w hs=some (u',hs'):=h;unfold Qc0 at h;split at h
 ·cases h;obtain⟨i',rfl,a⟩:=ru;obtain⟨j',rfl,b⟩:=rw;exact .inl ⟨i',j',rfl,rfl,k α _ H Ext.refl R ⟨_,rfl,Qhk a b⟩⟩
 ·split at h
  ·rename_i c;cases h;cases(show v=_ from ru);cases(show y=_ from rw);refine .inr (.inl ⟨_,_,rfl,rfl,?_,k α _ H Ext.refl R ?_⟩)
   ·rw [Zx,Zx];exact Nat.le_trans c big
   ·rw [QhL];rfl
  ·cases h
 ·rename_i a b;obtain⟨pa,ha,rfl⟩:=ru;obtain⟨pb,hb,rfl⟩:=rw;split at h
  ·rename_i ox oy e1 e2;have o1:=R.h.ob _ pa _ ha e1;have o2:=R.h.ob _ pb _ hb e2;unfold Qme at h;split at h
   ·rename_i xs ys;split at h
    ·rename_i c;cases h;obtain⟨vs,q1,r1⟩:=o1;obtain⟨ws,q2,r2⟩:=o2;refine .inr (.inr (.inl ⟨pa,pb,vs,ws,rfl,rfl,q1,q2,?_,fun p hp=>?_⟩))
     ·rw [<-r1.length,<-r2.length];exact Nat.le_trans c big
     ·obtain⟨R',E'⟩:=R.new (o:=.lst (xs++ys)) hp ⟨_,Qf,RUs.mono Qu (r1.append r2)⟩
      exact k _ _ _ E' R' ⟨p,by rw [<-R.h.len];exact QG,rfl⟩
    ·cases h
   ·rename_i xs ys;obtain⟨vs,q1,r1⟩:=o1;obtain⟨ws,q2,r2⟩:=o2;split at h
    ·rename_i z;cases h;have z:=List.isEmpty_iff.mp z;subst z;cases r1;exact .inr (.inr (.inr (.inl ⟨pa,pb,ws,rfl,rfl,SqT.of q1,SqT.of q2,k α _ H Ext.refl R ⟨pb,hb,rfl⟩⟩)))
    ·rename_i nx
     have nv:vs≠[]:=fun z=>nx (by rw [z]at r1;cases r1;rfl)
     split at h
     ·rename_i c
      have sz:vs.length+ws.length<=sizeLine:=by
       rw [<-r1.length,<-r2.length];exact Nat.le_trans c big
      split at h
      ·rename_i z;cases h;have z:=List.isEmpty_iff.mp z;subst z;cases r2;exact .inr (.inr (.inr (.inr ⟨pa,pb,vs,[],rfl,rfl,SqT.of q1,SqT.of q2,nv,sz,fun _=>k α _ H Ext.refl R ⟨pa,ha,rfl⟩,fun z=>absurd rfl z⟩)))
      ·rename_i ny;cases h
       refine .inr (.inr (.inr (.inr ⟨pa,pb,vs,ws,rfl,rfl,SqT.of q1,SqT.of q2,nv,sz,fun z=>absurd (by rw [z]at r2;cases r2;rfl) ny,fun _ p hp=>?_⟩)))
       obtain⟨R',E'⟩:=R.new (o:=.tup (xs++ys)) hp ⟨_,Qf,RUs.mono Qu (r1.append r2)⟩
       exact k _ _ _ E' R' ⟨p,by rw [<-R.h.len];exact QG,rfl⟩
     ·cases h
   ·cases h
  ·cases h
 ·cases h
theorem opS(o:Operator):OpS X T A o:=by
 cases o with
 | Add=>exact Qiy
 | Sub=>exact Qiu
 | Mult=>exact Qiw
 | FloorDiv=>exact Qf6
 | Mod=>exact Qix
 | Pow=>exact Qiv
 | _=>exact Qf5 fun u w hs=>rfl
end
end Iv
namespace Iv
open PySem PySem.Spec PyProof.Rows L2
section
variable {X:Cx}{T:Tbl}{A:Adr}{α:List Addr}{hs:Hs}{H:Hp}{u w:U}{v y:V}
theorem QO{xs:List U}(tx:Txt T A X.K X.mg)(R:Rep T A X.K α hs H)(h:QA T u hs=some xs)(r:RU A α u v):∃a vs,v=.ref a/\RUs A α xs vs/\SqL X.K H a vs:=by
 cases u with
 | ref n =>
  obtain⟨a,ha,rfl⟩:=r;simp only [QA]at h;split at h
  ·rename_i ys e;cases h;obtain⟨vs,q,rr⟩:=R.h.ob n a _ ha e;exact⟨a,vs,rfl,rr,SqL.of q⟩
  ·cases h
 | con k =>
  simp only [QA]at h;split at h
  ·rename_i ys e;cases h;obtain⟨vs,rr,q⟩:=tx.co k _ e
   exact⟨_,vs,r,RUs.mono (fun n a e=>by simp at e) rr,q H⟩
  ·cases h
 | scr =>
  simp only [QA]at h;cases h;obtain⟨vs,rr,q⟩:=R.s.sq (α:=α);exact⟨_,vs,r,rr,q⟩
 | _=>simp [QA]at h
theorem Jv{xs:List U}(tx:Txt T A X.K X.mg)(R:Rep T A X.K α hs H)(h:Ym T u hs=some xs)(r:RU A α u v):∃a vs,v=.ref a/\RUs A α xs vs/\SqT X.K H a vs:=by
 cases u with
 | ref n =>
  obtain⟨a,ha,rfl⟩:=r;simp only [Ym]at h;split at h
  ·rename_i ys e;cases h;obtain⟨vs,q,rr⟩:=R.h.ob n a _ ha e;exact⟨a,vs,rfl,rr,SqT.of q⟩
  ·cases h
 | con k =>
  simp only [Ym]at h;split at h
  ·rename_i ys e;cases h;obtain⟨vs,rr,q⟩:=tx.co k _ e
   exact⟨_,vs,r,RUs.mono (fun n a e=>by simp at e) rr,q H⟩
  ·cases h
 | _=>simp [Ym]at h
noncomputable def scP:U->PyData
 | .bl b=>.bool b
 | .int i _=>.int i
 | .str x=>.str ⟨x.toArray⟩
 | _=>.none
noncomputable def toP(T:Tbl):Nat->U->Hs->PyData
 | 0,_,_=>.none
 | n+1,u,hs=>match QA T u hs with
  | some xs=>.list (xs.map fun x=>toP T n x hs)
  | none=>match Ym T u hs with
   | some xs=>.tuple (xs.map fun x=>toP T n x hs)
   | none=>scP u
theorem YH{h:Heap}{f:U->PyData}:∀{xs:List U} {vs:List V} {its:List Value},RUs A α xs vs->Vals vs its->(∀x∈xs,∀v u,RU A α x v->RelV v u->∃as,Reads h u (f x) as)->∃as,ReadsAll h its (xs.map f) as
 | _,_,_,.nil,.nil,_=>⟨[],.nil⟩
 | _,_,_,.cons (a:=x) r t,.cons q p,k=>by
  obtain⟨as,h1⟩:=k x List.mem_cons_self _ _ r q;obtain⟨bs,h2⟩:=YH t p fun x m=>k x (List.mem_cons_of_mem _ m);exact⟨as++bs,.cons h1 h2⟩
theorem ZT{pins:List (Addr×Obj)}{s:Shared}{σ:L2.St}(tx:Txt T A X.K X.mg)(I:Inv X pins σ H s)(R:Rep T A X.K α hs H):∀(n:Nat) {u:U} {v:V} {z:Value},okW T n u hs=true->RU A α u v->RelV v z->∃as,Reads s.heap z (toP T n u hs) as
 | 0,_,_,_,h,_,_=>by cases h
 | n+1,u,v,z,h,r,q=>by
  have ih:=fun {u:U} {v:V} {z:Value}=>ZT tx I R n (u:=u) (v:=v) (z:=z);simp only [okW,toP]at h ⊢
  cases el:QA T u hs with
  | some xs =>
   rw [el]at h;have h:=List.all_eq_true.mp h;obtain⟨a,vs,rfl,rr,sq⟩:=QO tx R el r;cases q;obtain⟨its,rv,pl,_⟩:=I.list sq;obtain⟨o,ho,hc,m,hd⟩:=pl.isList;obtain⟨as,ra⟩:=YH (h:=s.heap) (f:=fun x=>toP T n x hs) rr rv fun x m v u h1 h2=>ih (h x m) h1 h2;exact⟨_,.list ho hc hd ra⟩
  | none =>
   rw [el]at h
   cases et:Ym T u hs with
   | some xs =>
    rw [et]at h;have h:=List.all_eq_true.mp h;obtain⟨a,vs,rfl,rr,sq⟩:=Jv tx R et r;cases q;obtain⟨its,rv,pl,_⟩:=I.tuple sq;obtain⟨o,ho,hc,m,hd⟩:=pl;obtain⟨as,ra⟩:=YH (h:=s.heap) (f:=fun x=>toP T n x hs) rr rv fun x m v u h1 h2=>ih (h x m) h1 h2;exact⟨_,.tuple ho hc hd ra⟩
   | none =>
    rw [et]at h
    cases u with
    | non=>cases(show v=_ from r);cases q;exact⟨[],.none⟩
    | bl b=>cases(show v=_ from r);cases q;exact⟨[],.bool b⟩
    | int i m =>
     have h:(m==0)=true:=h;have h:=eq_of_beq h;subst h;cases Q0 r;obtain⟨t,rfl⟩:=q;exact⟨[],.int i t⟩
    | str x=>cases(show v=_ from r);obtain⟨t,rfl⟩:=q;exact⟨[],.str _ t⟩
    | _=>cases h
theorem Qa7{f:U->PyData}{n:Nat}:∀{xs:List U},(∀x∈xs,(f x).canLay0=true/\(f x).depth<=n)->PyData.canLayAll0 (xs.map f)=true/\PyData.depthAll (xs.map f)<=n
 | [],_=>⟨rfl,Nat.zero_le _⟩
 | x::r,h=>by
  obtain⟨h1,h2⟩:=h x List.mem_cons_self;obtain⟨h3,h4⟩:=Qa7 (xs:=r) fun y m=>h y (List.mem_cons_of_mem _ m);refine⟨?_,?_⟩
  ·show((f x).canLay0&&PyData.canLayAll0 (r.map f))=true;rw [h1,h3];rfl
  ·show max (f x).depth (PyData.depthAll (r.map f))<=n;omega
theorem Qap:∀(n:Nat) {u:U},okW T n u hs=true->(toP T n u hs).canLay0=true/\(toP T n u hs).depth<=n
 | 0,_,h=>by cases h
 | n+1,u,h=>by
  have ih:=fun(u:U)=>Qap n (u:=u);simp only [okW,toP]at h ⊢
  cases el:QA T u hs with
  | some xs =>
   rw [el]at h;obtain⟨h1,h2⟩:=Qa7 (f:=fun x=>toP T n x hs) (n:=n) fun x m=>ih x (List.all_eq_true.mp h x m);exact⟨h1,Nat.succ_le_succ h2⟩
  | none =>
   rw [el]at h
   cases et:Ym T u hs with
   | some xs =>
    rw [et]at h;obtain⟨h1,h2⟩:=Qa7 (f:=fun x=>toP T n x hs) (n:=n) fun x m=>ih x (List.all_eq_true.mp h x m);exact⟨h1,Nat.succ_le_succ h2⟩
   | none =>
    rw [et]at h
    cases u with
    | str x =>
     refine⟨?_,Nat.zero_le _⟩;show PyData.strOk ⟨x.toArray⟩=true;unfold PyData.strOk;have h:=List.all_eq_true.mp h;rw [Array.all_eq_true'];intro c hc
     have:=of_decide_eq_true (h c (by simpa using hc))
     exact decide_eq_true (by omega)
    | non=>exact⟨rfl,Nat.zero_le _⟩
    | bl b=>exact⟨rfl,Nat.zero_le _⟩
    | int i m=>exact⟨rfl,Nat.zero_le _⟩
    | _=>cases h
theorem Qbg{f:U->PyData}{g:U->U->Bool}:∀{xs ys:List U},(∀x∈xs,∀y∈ys,PyData.eqv (f x) (f y)=g x y)->PyData.eqvAll (xs.map f) (ys.map f)=((xs.length==ys.length)&&(xs.zip ys).all fun p=>g p.1 p.2)
 | [],[],_=>rfl
 | [],_::_,_=>rfl
 | _::_,[],_=>rfl
 | x::r,y::t,h=>by
  have h1:=h x List.mem_cons_self y List.mem_cons_self;have h2:=Qbg (xs:=r) (ys:=t) fun a ma b mb=>h a (List.mem_cons_of_mem _ ma) b (List.mem_cons_of_mem _ mb);show(PyData.eqv (f x) (f y)&&PyData.eqvAll (r.map f) (t.map f))=_;rw [h1,h2];simp only [List.length_cons,List.zip_cons_cons,List.all_cons]
  have e:(r.length+1==t.length+1)=(r.length==t.length):=by simp
  rw [e];cases g x y<;>cases(r.length==t.length)<;>simp
theorem QhK{x y:List Nat}:((⟨x.toArray⟩:Str)==⟨y.toArray⟩)=(x==y):=by
 by_cases h:x=y
 ·subst h;simp
 ·have:(⟨x.toArray⟩:Str)≠⟨y.toArray⟩:=fun z=>h (by
   have:=congrArg (fun s:Str=>s.cps.toList) z
   simpa using this)
  rw [beq_eq_false_iff_ne.mpr this,beq_eq_false_iff_ne.mpr h]
theorem QeE:∀(n:Nat) {u w:U},okW T n u hs=true->okW T n w hs=true->PyData.eqv (toP T n u hs) (toP T n w hs)=eqW T n u w hs
 | 0,_,_,h,_=>by cases h
 | n+1,u,w,h,h'=>by
  have ih:=fun(u w:U)=>QeE n (u:=u) (w:=w);simp only [okW,toP,eqW]at h h' ⊢
  cases el:QA T u hs with
  | some xs =>
   rw [el]at h
   cases el':QA T w hs with
   | some ys =>
    rw [el']at h';exact Qbg (g:=fun a b=>eqW T n a b hs) fun x mx y my=>ih x y (List.all_eq_true.mp h x mx) (List.all_eq_true.mp h' y my)
   | none =>
    rw [el']at h'
    cases et':Ym T w hs with
    | some ys=>rfl
    | none=>rw [et']at h';cases w<;>first | rfl | (cases h';done)
  | none =>
   rw [el]at h
   cases et:Ym T u hs with
   | some xs =>
    rw [et]at h
    cases el':QA T w hs with
    | some ys=>rfl
    | none =>
     rw [el']at h'
     cases et':Ym T w hs with
     | some ys =>
      rw [et']at h';exact Qbg (g:=fun a b=>eqW T n a b hs) fun x mx y my=>ih x y (List.all_eq_true.mp h x mx) (List.all_eq_true.mp h' y my)
     | none=>rw [et']at h';cases w<;>first | rfl | (cases h';done)
   | none =>
    rw [et]at h
    cases el':QA T w hs with
    | some ys=>cases u<;>first | rfl | (cases h;done)
    | none =>
     rw [el']at h'
     cases et':Ym T w hs with
     | some ys=>cases u<;>first | rfl | (cases h;done)
     | none =>
      rw [et']at h'
      cases u<;>first | (cases h;done) | (cases w<;>first | (cases h';done) | rfl | exact QhK)
noncomputable def Qow(T:Tbl)(A:Adr)(K:PySem.W.Frag)(neg:Bool):R2:=fun x y H Q=>∃α u w hs,RU A α u x/\RU A α w y/\Rep T A K α hs H/\okW T 20 u hs=true/\okW T 20 w hs=true/\Q (.bl (if neg then !(eqW T 20 u w hs)else eqW T 20 u w hs)) H
theorem ZS{d:PyData}{n:Nat}(h:d.canLay0=true/\d.depth<=n)(hn:n<=64):SeqAt.shaped d=true:=by
 unfold SeqAt.shaped;rw [h.1,Bool.true_and];exact decide_eq_true (Nat.le_trans h.2 hn)
theorem Qk2(tx:Txt T A X.K X.mg)(hu:X.A.units+64<cLine):OpR X (compareOp .Eq) (Qow T A X.K false):=by
 intro pins s σ H x y v u Q I rx ry h;obtain⟨α,u1,w1,hs,r1,r2,R,o1,o2,q⟩:=h;obtain⟨as,ra⟩:=ZT tx I R 20 o1 r1 rx;obtain⟨bs,rb⟩:=ZT tx I R 20 o2 r2 ry
 refine eq_dataH ra rb (ZS (Qap 20 o1) (by decide)) (ZS (Qap 20 o2) (by decide)) hu ?_
 rw [QeE 20 o1 o2];exact⟨.bl _,H,I,rfl,q⟩
noncomputable def Qos(T:Tbl)(A:Adr)(K:PySem.W.Frag)(b:Bool):R2:=fun x y H Q=>∃α u w hs,RU A α u x/\RU A α w y/\Rep T A K α hs H/\Y5 T u w hs=true/\Q (.bl b) H
theorem Qb3{pins:List (Addr×Obj)}{s:Shared}{σ:L2.St}{H:Hp}{α:List Addr}{hs:Hs}{u w:U}{x y:V}{v z:Value}(tx:Txt T A X.K X.mg)(I:Inv X pins σ H s)(R:Rep T A X.K α hs H)(h:Y5 T u w hs=true)(r1:RU A α u x)(r2:RU A α w y)(rx:RelV x v)(ry:RelV y z):
  ∃(a b:Addr) (i1 i2:List Value),v=.ref a/\z=.ref b/\s.heap.IsList a i1.toArray/\s.heap.IsList b i2.toArray/\(i1.toArray.size != i2.toArray.size)=true:=by
 unfold Y5 at h;split at h
 ·rename_i xs ys e1 e2;obtain⟨a,vs,rfl,rr,sq⟩:=QO tx R e1 r1;obtain⟨b,ws,rfl,rr',sq'⟩:=QO tx R e2 r2;obtain⟨i1,q1,p1,_⟩:=I.list sq;obtain⟨i2,q2,p2,_⟩:=I.list sq';cases rx;cases ry;have l1:=rr.length;have l2:=rr'.length;have l3:=q1.length;have l4:=q2.length;have h:=of_decide_eq_true h;refine⟨a,b,i1,i2,rfl,rfl,p1.isList,p2.isList,?_⟩;simp only [List.size_toArray,bne_iff_ne,ne_eq];omega
 ·cases h
theorem Qk1(tx:Txt T A X.K X.mg)(hu:X.A.units+64<cLine):OpR X (compareOp .Eq) (Qos T A X.K false):=by
 intro pins s σ H x y v u Q I rx ry h;obtain⟨α,u1,w1,hs,r1,r2,R,o1,q⟩:=h;obtain⟨a,b,i1,i2,rfl,rfl,p1,p2,z⟩:=Qb3 tx I R o1 r1 r2 rx ry
 exact SeqAt.RcAt.lists_lengths p1 p2 z (by omega) _ _ _ _ ⟨.bl _,H,I,rfl,q⟩
theorem QkV(tx:Txt T A X.K X.mg)(hu:X.A.units+64<cLine):OpR X (compareOp .NotEq) (Qos T A X.K true):=by
 intro pins s σ H x y v u Q I rx ry h;obtain⟨α,u1,w1,hs,r1,r2,R,o1,q⟩:=h;obtain⟨a,b,i1,i2,rfl,rfl,p1,p2,z⟩:=Qb3 tx I R o1 r1 r2 rx ry
 exact SeqAt.RcNeAt.lists_lengths p1 p2 z (by omega) _ _ _ _ ⟨.bl _,H,I,rfl,q⟩
noncomputable def Qkt(T:Tbl)(A:Adr)(K:PySem.W.Frag)(b:Bool):R2:=fun x y H Q=>∃α u w hs,RU A α u x/\RU A α w y/\Rep T A K α hs H/\QaT T u w hs=true/\Q (.bl b) H
theorem JV{α:List Addr}:∀{xs:List U} {vs ws:List V} {i1 i2:List Value},(xs.all fun x=>match x with | .ref _=>true | _=>false)=true->RUs A α xs vs->RUs A α xs ws->Vals vs i1->Vals ws i2->i1=i2
 | [],_,_,_,_,_,r1,r2,q1,q2=>by cases r1;cases r2;cases q1;cases q2;rfl
 | x::xs,_,_,_,_,h,.cons a r1,.cons b r2,.cons c q1,.cons d q2=>by
  rw [List.all_cons,Bool.and_eq_true]at h
  cases x with
  | ref n =>
   obtain⟨p,hp,rfl⟩:=a;obtain⟨p',hp',rfl⟩:=b;rw [hp]at hp';cases hp';cases c;cases d;rw [JV h.2 r1 r2 q1 q2]
  | _=>exact absurd h.1 (by simp)
theorem QbH{pins:List (Addr×Obj)}{s:Shared}{σ:L2.St}{H:Hp}{α:List Addr}{hs:Hs}{u w:U}{x y:V}{v z:Value}(tx:Txt T A X.K X.mg)(I:Inv X pins σ H s)(R:Rep T A X.K α hs H)(h:QaT T u w hs=true)(r1:RU A α u x)(r2:RU A α w y)(rx:RelV x v)(ry:RelV y z):
  ∃(a b:Addr) (i1:List Value),v=.ref a/\z=.ref b/\s.heap.IsList a i1.toArray/\s.heap.IsList b i1.toArray:=by
 unfold QaT at h;split at h
 ·rename_i xs ys e1 e2;rw [Bool.and_eq_true]at h;obtain⟨h0,h⟩:=h;have h0:=of_decide_eq_true h0;subst h0;obtain⟨a,vs,rfl,rr,sq⟩:=QO tx R e1 r1;obtain⟨b,ws,rfl,rr',sq'⟩:=QO tx R e2 r2;obtain⟨i1,q1,p1,_⟩:=I.list sq;obtain⟨i2,q2,p2,_⟩:=I.list sq';cases rx;cases ry;cases JV h rr rr' q1 q2;exact⟨a,b,i1,rfl,rfl,p1.isList,p2.isList⟩
 ·cases h
theorem Qk0(tx:Txt T A X.K X.mg)(hu:X.A.units+64<cLine):OpR X (compareOp .Eq) (Qkt T A X.K true):=by
 intro pins s σ H x y v u Q I rx ry h;obtain⟨α,u1,w1,hs,r1,r2,R,o1,q⟩:=h;obtain⟨a,b,i1,rfl,rfl,p1,p2⟩:=QbH tx I R o1 r1 r2 rx ry
 have rc:=SeqAt.RcAt.lists (A:=X.A) (e:=fun _=>true) p1 p2 rfl (by omega) fun j h1 h2=>SeqAt.EqAt.same _
 have al:(List.range i1.toArray.size).all (fun _=>true)=true:=by simp
 rw [al]at rc;exact rc _ _ _ _ ⟨.bl _,H,I,rfl,q⟩
theorem QkU(tx:Txt T A X.K X.mg)(hu:X.A.units+64<cLine):OpR X (compareOp .NotEq) (Qkt T A X.K false):=by
 intro pins s σ H x y v u Q I rx ry h;obtain⟨α,u1,w1,hs,r1,r2,R,o1,q⟩:=h;obtain⟨a,b,i1,rfl,rfl,p1,p2⟩:=QbH tx I R o1 r1 r2 rx ry
 have rc:=SeqAt.RcNeAt.lists (A:=X.A) (e:=fun _=>true) p1 p2 rfl (by omega) fun j h1 h2=>SeqAt.EqAt.same _
 have al:(!(List.range i1.toArray.size).all (fun _=>true))=false:=by simp
 rw [al]at rc;exact rc _ _ _ _ ⟨.bl _,H,I,rfl,q⟩
theorem QkW(tx:Txt T A X.K X.mg)(hu:X.A.units+64<cLine):OpR X (compareOp .NotEq) (Qow T A X.K true):=by
 intro pins s σ H x y v u Q I rx ry h;obtain⟨α,u1,w1,hs,r1,r2,R,o1,o2,q⟩:=h;obtain⟨as,ra⟩:=ZT tx I R 20 o1 r1 rx;obtain⟨bs,rb⟩:=ZT tx I R 20 o2 r2 ry
 refine ne_dataH ra rb (ZS (Qap 20 o1) (by decide)) (ZS (Qap 20 o2) (by decide)) hu ?_
 rw [QeE 20 o1 o2];exact⟨.bl _,H,I,rfl,q⟩
end
end Iv
namespace Iv
open PySem PySem.Spec PyProof.Rows L2
section
variable {κ κ':Type}[DecidableEq κ][DecidableEq κ']{P:κ->κ'->Prop}{A:Adr}{α:List Addr}{w:κ}{k:κ'}{u:U}{v:V}
noncomputable abbrev RG(P:κ->κ'->Prop)(A:Adr)(α:List Addr):List (κ×U)->List (κ'×V)->Prop:=Paired fun p q=>P p.1 q.1/\RU A α p.2 q.2
noncomputable def Inj(P:κ->κ'->Prop):Prop:=∀a b k l,P a k->P b l->(a=b↔k=l)
theorem RG.look(inj:Inj P)(hk:P w k):∀{kvs:List (κ×U)} {kv:List (κ'×V)},RG P A α kvs kv->(QF kvs w=none/\ZQ kv k=none)\/∃u v,QF kvs w=some u/\ZQ kv k=some v/\RU A α u v
 | _,_,.nil=>.inl ⟨rfl,rfl⟩
 | _,_,.cons (a:=p) (b:=q) r t=>by
  by_cases h:p.1=w
  ·have h':q.1=k:=(inj _ _ _ _ r.1 hk).mp h
   exact .inr ⟨p.2,q.2,by simp [QF,List.find?_cons,h],by simp [ZQ,List.find?_cons,h'],r.2⟩
  ·have h':¬q.1=k:=fun z=>h ((inj _ _ _ _ r.1 hk).mpr z);have ih:=RG.look inj hk t
   have e1:∀l,QF (p::l) w=QF l w:=fun l=>by simp [QF,List.find?_cons,h]
   have e2:∀l,ZQ (q::l) k=ZQ l k:=fun l=>by simp [ZQ,List.find?_cons,h']
   rw [e1,e2];exact ih
theorem RG.any(inj:Inj P)(hk:P w k):∀{kvs:List (κ×U)} {kv:List (κ'×V)},RG P A α kvs kv->(kvs.any fun p=>decide (p.1=w))=(kv.any fun p=>decide (p.1=k))
 | _,_,.nil=>rfl
 | _,_,.cons (a:=p) (b:=q) r t=>by
  rw [List.any_cons,List.any_cons,RG.any inj hk t,decide_eq_decide.mpr (inj _ _ _ _ r.1 hk)]
theorem RG.repl(inj:Inj P)(hk:P w k)(ru:RU A α u v):∀{kvs:List (κ×U)} {kv:List (κ'×V)},RG P A α kvs kv->RG P A α (kvs.map fun p=>if p.1=w then(p.1,u)else p) (kv.map fun p=>if p.1=k then(p.1,v)else p)
 | _,_,.nil=>.nil
 | _,_,.cons (a:=p) (b:=q) r t=>by
  refine .cons ?_ (RG.repl inj hk ru t);by_cases h:p.1=w
  ·have h':=(inj _ _ _ _ r.1 hk).mp h;simp only [h,h',if_true];exact⟨hk,ru⟩
  ·have h':¬q.1=k:=fun z=>h ((inj _ _ _ _ r.1 hk).mpr z);simp only [h,h',if_false];exact r
theorem RG.put(inj:Inj P)(hk:P w k)(ru:RU A α u v){kvs:List (κ×U)}{kv:List (κ'×V)}(r:RG P A α kvs kv):RG P A α (ZJ kvs w u) (ZO kv k v):=by
 unfold ZJ ZO;rw [RG.any inj hk r];split
 ·exact RG.repl inj hk ru r
 ·exact Paired.snoc r ⟨hk,ru⟩
theorem RG.merge(inj:Inj P){more:List (κ×U)}{mv:List (κ'×V)}(m:RG P A α more mv):∀{kvs:List (κ×U)} {kv:List (κ'×V)},RG P A α kvs kv->RG P A α (more.foldl (fun acc p=>ZJ acc p.1 p.2) kvs) (mv.foldl (fun acc p=>ZO acc p.1 p.2) kv):=by
 induction m with
 | nil=>intro _ _ r;exact r
 | cons q _ ih=>intro _ _ r;exact ih (RG.put inj q.1 q.2 r)
end
theorem Jk:Inj RK:=fun a b k l h h'=>by
 cases a<;>cases b<;>simp only [RK]at h h'<;>first | exact h.elim | exact h'.elim | skip
 ·obtain⟨rfl,rfl⟩:=h;obtain⟨rfl,rfl⟩:=h';simp
 ·obtain⟨rfl,rfl⟩:=h;subst h';simp
 ·subst h;obtain⟨rfl,rfl⟩:=h';simp
 ·subst h h';simp
theorem JF:Inj RKs:=fun a b k l h=>by
 induction h generalizing b l with
 | nil =>
  intro h'
  cases h' with
  | nil=>simp
  | cons=>simp
 | cons p t ih =>
  intro h'
  cases h' with
  | nil=>simp
  | cons q t' =>
   have i1:=Jk _ _ _ _ p q;have i2:=ih _ _ t';simp only [List.cons.injEq,i1,i2]
section
variable {X:Cx}{T:Tbl}{A:Adr}{K:PySem.W.Frag}{α:List Addr}{hs:Hs}{H:Hp}{n:Nat}{a:Addr}{o:O}{w:U}{y:V}
theorem Qb5(hk:Y6 w=true)(r:RU A α w y):∃k,RK w k/\y=kV k:=by
 cases w with
 | int i m =>
  cases m with
  | zero=>obtain⟨j,rfl,c⟩:=r;cases c.exact;exact⟨Sum.inl i,⟨rfl,rfl⟩,rfl⟩
  | succ m=>cases hk
 | str x=>cases(show y=_ from r);exact⟨Sum.inr _,rfl,rfl⟩
 | _=>cases hk
theorem Qed:∀{ks:List U} {vs:List V},ks.all Y6=true->RUs A α ks vs->∃k,RKs ks k/\vs=k.map kV
 | _,_,_,.nil=>⟨[],.nil,rfl⟩
 | _,_,h,.cons r t=>by
  rw [List.all_cons,Bool.and_eq_true]at h;obtain⟨k,h1,rfl⟩:=Qb5 h.1 r;obtain⟨ks,h2,rfl⟩:=Qed h.2 t;exact⟨k::ks,.cons h1 h2,rfl⟩
theorem Qfz{t:List U}(R:Rep T A K α hs H)(h:tkU w hs=some t)(r:RU A α w y):∃b k,y=.ref b/\RKs t k/\H b=some (.tup (k.map kV)):=by
 cases w with
 | ref m =>
  obtain⟨b,hb,rfl⟩:=r;simp only [tkU]at h;split at h
  ·rename_i ks e;split at h
   ·rename_i c;cases h;obtain⟨vs,e1,rr⟩:=R.h.ob m b _ hb e;obtain⟨k,rk,rfl⟩:=Qed c rr;exact⟨b,k,rfl,rk,e1⟩
   ·cases h
  ·cases h
 | _=>cases h
theorem Qbl{r:Option U}(R:Rep T A K α hs H)(ho:hs[n]?=some o)(ha:α[n]?=some a)(h:ZL o w hs=some r)(rw':RU A α w y):(r=none/\DGet H a y none)\/∃u v,r=some u/\DGet H a y (some v)/\RU A α u v:=by
 cases o with
 | dic kvs =>
  obtain⟨kv,e,rd⟩:=R.h.ob n a _ ha ho;simp only [ZL]at h;split at h
  ·rename_i c;cases h;obtain⟨k,rk,rfl⟩:=Qb5 c rw';have g:=DGet.k (k:=k) e
   rcases RG.look Jk rk rd with⟨h1,h2⟩ | ⟨u,v,h1,h2,h3⟩
   ·rw [h2]at g;exact .inl ⟨h1,g⟩
   ·rw [h2]at g;exact .inr ⟨u,v,h1,g,h3⟩
  ·cases h
 | fzd kvs =>
  obtain⟨kv,ob,e,rd⟩:=R.h.ob n a _ ha ho;simp only [ZL]at h;split at h
  ·rename_i c;cases h;obtain⟨k,rk,rfl⟩:=Qb5 c rw';have g:DGet H a (kV k) (ZQ kv k):=.inl ⟨kv,k,.inr ⟨ob,e⟩,rfl,rfl⟩
   rcases RG.look Jk rk rd with⟨h1,h2⟩ | ⟨u,v,h1,h2,h3⟩
   ·rw [h2]at g;exact .inl ⟨h1,g⟩
   ·rw [h2]at g;exact .inr ⟨u,v,h1,g,h3⟩
  ·cases h
 | dct kvs =>
  obtain⟨kv,e,rd⟩:=R.h.ob n a _ ha ho;simp only [ZL,Option.map_eq_some_iff]at h;obtain⟨t,ht,rfl⟩:=h;obtain⟨b,k,rfl,rk,hb⟩:=Qfz R ht rw';have g:=DGet.t e hb
  rcases RG.look JF rk rd with⟨h1,h2⟩ | ⟨u,v,h1,h2,h3⟩
  ·rw [h2]at g;exact .inl ⟨h1,g⟩
  ·rw [h2]at g;exact .inr ⟨u,v,h1,g,h3⟩
 | fzt kvs =>
  obtain⟨kv,ob,e,rd⟩:=R.h.ob n a _ ha ho;simp only [ZL,Option.map_eq_some_iff]at h;obtain⟨t,ht,rfl⟩:=h;obtain⟨b,k,rfl,rk,hb⟩:=Qfz R ht rw';have g:DGet H a (.ref b) (ZQ kv k):=.inr ⟨kv,k,b,.inr ⟨ob,e⟩,rfl,hb,rfl⟩
  rcases RG.look JF rk rd with⟨h1,h2⟩ | ⟨u,v,h1,h2,h3⟩
  ·rw [h2]at g;exact .inl ⟨h1,g⟩
  ·rw [h2]at g;exact .inr ⟨u,v,h1,g,h3⟩
 | _=>cases h
theorem RG.length{κ κ':Type}{P:κ->κ'->Prop}{kvs:List (κ×U)}{kv:List (κ'×V)}(r:RG P A α kvs kv):kvs.length=kv.length:=Paired.length r
theorem Qi8{u:U}{v:V}{hs':Hs}(R:Rep T A K α hs H)(ho:hs[n]?=some o)(ha:α[n]?=some a)(h:Qbh n o w u hs=some hs')(rw':RU A α w y)(ru:RU A α u v):∃H',DPut H a y v H'/\Rep T A K α hs' H'/\Ext α α H H':=by
 cases o with
 | dic kvs =>
  obtain⟨kv,e,rd⟩:=R.h.ob n a _ ha ho;simp only [Qbh]at h;split at h
  ·rename_i c;cases h;obtain⟨k,rk,rfl⟩:=Qb5 c.1 rw';have l:=RG.length rd;obtain⟨R',E'⟩:=R.put (o:=.dic (ZJ kvs w u)) (ho:=.dK (ZO kv k v)) ha ⟨_,Qf,RG.put Jk rk ru rd⟩
   exact⟨_,DPut.k e (Nat.lt_of_lt_of_le (by omega:kv.length<1000000) big),R',E'⟩
  ·cases h
 | dct kvs =>
  obtain⟨kv,e,rd⟩:=R.h.ob n a _ ha ho;simp only [Qbh]at h;split at h
  ·rename_i c;simp only [Option.map_eq_some_iff]at h;obtain⟨t,ht,rfl⟩:=h;obtain⟨b,k,rfl,rk,hb⟩:=Qfz R ht rw';have l:=RG.length rd;obtain⟨R',E'⟩:=R.put (o:=.dct (ZJ kvs t u)) (ho:=.dT (ZO kv k v)) ha ⟨_,Qf,RG.put JF rk ru rd⟩
   exact⟨_,DPut.t e hb (Nat.lt_of_lt_of_le (by omega:kv.length<1000000) big),R',E'⟩
  ·cases h
 | _=>cases h
noncomputable def QmW:R2:=fun x y H Q=>∃a v,x=.ref a/\DGet H a y (some v)/\Q v H
theorem QiR(hu:X.A.units+1<cLine):IxR X QmW:=by
 intro value slice pins s σ H x y v u Q I rx ry h hs;obtain⟨a,z,rfl,g,q⟩:=h;obtain rfl:v=Value.ref a:=rx;have hT:=Qbj I g;unfold subscriptTail;refine wpAny_bind ?_;rw [getitemInPython_of_ne hT.not_modules];refine wpAny_bind (wpAny_specialOf hT PySem.F.slot_dict_getitem.lookup ?_)
 have fin:wpAny (model X.prog X.w) X.A (subscripted slice false (.ref a) u) (fun r s₃=>wpAny (model X.prog X.w) X.A (letTemporaryGo value (.ref a) r >>= fun _=>pure r) (EP X pins σ Q) X.xe s₃) X.xe s:=by
  rw [hs];exact wpAny_operating (QeN hu I g ry fun w' s3 I3 rw'=>wpAny_bind (wpAny_letTemporaryGo (wpAny_pure ⟨z,H,I3,rw',q⟩)))
 first
  | exact wpAny_pure (wpAny_bind fin)
  | exact wpAny_bind (wpAny_pure (wpAny_bind fin))
  | exact wpAny_bind fin
noncomputable def QmX(neg:Bool):R2:=fun x y H Q=>∃a o,y=.ref a/\DGet H a x o/\Q (.bl (if neg then !o.isSome else o.isSome)) H
theorem QkZ(hu:X.A.units+1<cLine):OpR X (compareOp .In) (QmX false):=by
 intro pins s σ H x y v u Q I rx ry h;obtain⟨a,o,rfl,g,q⟩:=h;obtain rfl:u=Value.ref a:=ry;exact Qpy hu I g rx fun s3 I3=>⟨.bl o.isSome,H,I3,rfl,q⟩
theorem QdQ(hu:X.A.units+1<cLine):OpR X (compareOp .NotIn) (QmX true):=by
 intro pins s σ H x y v u Q I rx ry h;obtain⟨a,o,rfl,g,q⟩:=h;obtain rfl:u=Value.ref a:=ry;exact Qja hu I g rx fun s3 I3=>⟨.bl (!o.isSome),H,I3,rfl,q⟩
theorem Qhb{u w:U}{v y:V}{c neg:Bool}{Q:VK}(R:Rep T A K α hs H)(h:inD T w u hs=some c)(ru:RU A α u v)(rw':RU A α w y)(q:Q (.bl (if neg then !c else c)) H):QmX neg v y H Q\/Ql5 T w u=some c:=by
 unfold inD at h;split at h
 ·rename_i n;split at h
  ·rename_i o e;simp only [Option.map_eq_some_iff]at h;obtain⟨r,h1,rfl⟩:=h;obtain⟨a,ha,rfl⟩:=rw'
   rcases Qbl R e ha h1 ru with⟨rfl,g⟩ | ⟨u',v',rfl,g,_⟩
   ·exact .inl ⟨a,none,rfl,g,q⟩
   ·exact .inl ⟨a,some v',rfl,g,q⟩
  ·cases h
 ·exact .inr h
noncomputable def QmV:V->V->V->Hp->(Hp->Prop)->Prop:=fun o i v H Q=>∃a H',o=.ref a/\DPut H a i v H'/\Q H'
theorem QfL(hu:X.A.units+1<cLine):QjA X QmV:=by
 intro pins s σ H o i v ov iv u Q I ro ri rv h;obtain⟨a,H',rfl,g,q⟩:=h;obtain rfl:ov=Value.ref a:=ro;exact QeM hu I g ri rv fun s4 I4=>⟨H',I4,q⟩
theorem Qj7{t t':Qmi}(h:QjA X t)(h':QjA X t'):QjA X (fun o i v H Q=>t o i v H Q\/t' o i v H Q):=fun pins s σ H o i v ov iv u Q I ro ri rv q=>q.elim (h pins s σ H o i v ov iv u Q I ro ri rv) (h' pins s σ H o i v ov iv u Q I ro ri rv)
noncomputable def QmY:V->List V->Hp->VK->Prop:=fun x vs H Q=>∃a y z o,x=.ref a/\vs=[y,z]/\DGet H a y o/\Q (o.getD z) H
theorem QiE(hu:X.A.units+1<cLine):MtR X "dict.get" QmY:=by
 intro pins s σ H x vs v us Q I rx rv h;obtain⟨a,y,z,o,rfl,rfl,g,q⟩:=h;cases rx;obtain⟨uk,uy,rfl,rk,ry⟩:=Qcq rv;exact QlC hu I g rk ry fun w' s' I' rw'=>⟨o.getD z,H,I',rw',q⟩
noncomputable def Qh1:V->List V->Hp->VK->Prop:=fun x vs H Q=>∃a b kvs more,x=.ref a/\vs=[.ref b]/\H a=some (.dK kvs)/\H b=some (.dK more)/\a≠b/\kvs.length+more.length<=sizeLine/\Q .non (upd H a (.dK (ZX kvs more)))
theorem QdY:MtR X "dict.update" Qh1:=by
 intro pins s σ H x vs v us Q I rx rv h;obtain⟨a,b,kvs,more,rfl,rfl,hA,hB,ne,hz,q⟩:=h;cases rx;obtain⟨u,rfl,ru⟩:=rv.one;cases ru;obtain⟨z,hd,ws,rel,dd⟩:=Qbi I.hok hA;obtain⟨z2,hd2,ws2,rel2,dd2⟩:=Qbi I.hok hB
 refine call_meetsIn PySem.F.slot_dict_update dd.typeIs PySem.F.entry_dict_update (PySem.F.args_dict_update_2 _ _) (meets_dict_update (Qq X.prog X.w) a b ne hd2) ⟨ws,ws2,dd,dd2,by rw [<-rel.length,<-rel2.length];exact hz,fun h' dd' _ hs=>?_⟩
 have he:∃q,h'.get? a=some q:=let ⟨q,_,_,hq,_⟩:=dd';⟨q,hq⟩;have hl:(ZX kvs more).length<=sizeLine:=Nat.le_trans (Zk more kvs) hz
 have I2:=YV (t':=s.toks) I (by rw [hA];exact True.intro) hs he (Qcd hl hd (KV.merge rel2 rel) dd')
 exact⟨.non,_,I2,rfl,q⟩
end
end Iv
namespace Iv
open PySem PySem.Spec PyProof.Rows L2
section
variable {X:Cx}{T:Tbl}{A:Adr}
theorem QnR{i j:Int}:decide (V.int i=V.int j)=decide (i=j):=by
 by_cases e:i=j
 ·subst e;simp
 ·have:¬V.int i=V.int j:=fun q=>e (V.int.inj q);rw [decide_eq_false this,decide_eq_false e]
theorem QnQ{x y:List Nat}:decide (V.str ⟨x.toArray⟩=V.str ⟨y.toArray⟩)=decide (x=y):=by
 by_cases e:x=y
 ·subst e;simp
 ·have:¬V.str ⟨x.toArray⟩=V.str ⟨y.toArray⟩:=fun q=>e (by
   have q1:=V.str.inj q;have q2:=congrArg (fun s:Str=>s.cps.toList) q1
   simpa using q2)
  rw [decide_eq_false this,decide_eq_false e]
theorem QnS{x y:Bool}:decide (V.bl x=V.bl y)=decide (x=y):=by cases x<;>cases y<;>rfl
theorem Qhf{α:List Addr}{u w:U}{v y:V}{c:Bool}(h:eqS u w=some c)(ru:RU A α u v)(rw':RU A α w y):scal v y=true/\decide (v=y)=c:=by
 cases u with
 | non =>
  cases(show v=_ from ru)
  cases w with
  | non=>cases(show y=_ from rw');cases h;exact⟨rfl,rfl⟩
  | bl b=>cases(show y=_ from rw');cases h;exact⟨rfl,rfl⟩
  | int j n=>obtain⟨_,rfl,_⟩:=rw';cases h;exact⟨rfl,rfl⟩
  | str x=>cases(show y=_ from rw');cases h;exact⟨rfl,rfl⟩
  | _=>exact nomatch (show(none:Option Bool)=some _ from h)
 | bl b =>
  cases(show v=_ from ru)
  cases w with
  | non=>cases(show y=_ from rw');cases h;exact⟨rfl,rfl⟩
  | bl b=>cases(show y=_ from rw');cases h;exact⟨rfl,QnS⟩
  | str x=>cases(show y=_ from rw');cases h;exact⟨rfl,rfl⟩
  | _=>exact nomatch (show(none:Option Bool)=some _ from h)
 | str x =>
  cases(show v=_ from ru)
  cases w with
  | non=>cases(show y=_ from rw');cases h;exact⟨rfl,rfl⟩
  | bl b=>cases(show y=_ from rw');cases h;exact⟨rfl,rfl⟩
  | int j n=>obtain⟨_,rfl,_⟩:=rw';cases h;exact⟨rfl,rfl⟩
  | str z=>cases(show y=_ from rw');cases h;exact⟨rfl,QnQ⟩
  | _=>exact nomatch (show(none:Option Bool)=some _ from h)
 | int i m =>
  obtain⟨i',rfl,a⟩:=ru
  cases w with
  | non=>cases(show y=_ from rw');cases m<;>cases h<;>exact⟨rfl,rfl⟩
  | str x=>cases(show y=_ from rw');cases m<;>cases h<;>exact⟨rfl,rfl⟩
  | int j n =>
   obtain⟨j',rfl,b⟩:=rw'
   cases m with
   | succ m=>exact nomatch (show(none:Option Bool)=some _ from h)
   | zero =>
    cases n with
    | succ n=>exact nomatch (show(none:Option Bool)=some _ from h)
    | zero=>cases a.exact;cases b.exact;cases h;exact⟨rfl,QnR⟩
  | _=>cases m<;>exact nomatch (show(none:Option Bool)=some _ from h)
 | _=>cases w<;>exact nomatch (show(none:Option Bool)=some _ from h)
theorem Qbd{α:List Addr}{x:U}{v:V}(h:Qbe x=true)(r:RU A α x v):Y9 v=true:=by
 cases x with
 | non=>cases(show v=_ from r);rfl
 | int i m=>obtain⟨_,rfl,_⟩:=r;rfl
 | str z=>cases(show v=_ from r);rfl
 | _=>cases h
theorem Qlv{α:List Addr}{x y:U}{v w:V}(hx:Qbe x=true)(hy:Qbe y=true)(rx:RU A α x v)(ry:RU A α y w):eqV w v=eqF y x:=by
 cases y with
 | non =>
  cases(show w=_ from ry)
  cases x with
  | non=>cases(show v=_ from rx);rfl
  | int i m=>obtain⟨_,rfl,_⟩:=rx;rfl
  | str z=>cases(show v=_ from rx);rfl
  | _=>cases hx
 | str z =>
  cases(show w=_ from ry)
  cases x with
  | non=>cases(show v=_ from rx);rfl
  | int i m=>obtain⟨_,rfl,_⟩:=rx;rfl
  | str z' =>
   cases(show v=_ from rx);show(({ cps:=z.toArray }:Str)=={ cps:=z'.toArray })=decide (z=z');by_cases e:z=z'
   ·subst e;simp
   ·rw [decide_eq_false e,beq_eq_false_iff_ne];intro q;have q2:=congrArg (fun s:Str=>s.cps.toList) q
    exact e (by simpa using q2)
  | _=>cases hx
 | int j n =>
  obtain⟨j',rfl,b⟩:=ry
  cases n with
  | succ n=>cases hy
  | zero =>
   cases b.exact
   cases x with
   | non=>cases(show v=_ from rx);rfl
   | str z=>cases(show v=_ from rx);rfl
   | int i m =>
    obtain⟨i',rfl,a⟩:=rx
    cases m with
    | succ m=>cases hx
    | zero =>
     cases a.exact;show(j==i)=decide (j=i);by_cases e:j=i<;>simp [e]
   | _=>cases hx
 | _=>cases hy
theorem Qeq{α:List Addr}{x:U}{v:V}(hx:Qbe x=true)(rx:RU A α x v):∀{ys:List U} {ws:List V},RUs A α ys ws->ys.all Qbe=true->ws.all Y9=true/\inV v ws=ys.any fun y=>eqF y x
 | _,_,.nil,_=>⟨rfl,rfl⟩
 | _,_,.cons (a:=y) (b:=w) r t,h=>by
  rw [List.all_cons,Bool.and_eq_true]at h;obtain⟨h1,h2⟩:=Qeq hx rx t h.2
  refine⟨by rw [List.all_cons,h1,Qbd h.1 r];rfl,?_⟩
  show(eqV w v||inV v _)=(eqF y x||_);rw [h2,Qlv hx h.1 rx r]
theorem Qhy{vs:List (Key×Value)}{y:U}{yv:V}{α:List Addr}(ky:Y6 y=true)(ry:RU A α y yv):∀{kvs:List (U×U)},Paired (fun(p:U×U) (q:Key×Value)=>QiQ p.1 q.1/\∃v,RU A [] p.2 v/\RelV v q.2) kvs vs ->
  ∃key,yv=kV key/\(valueAt vs key).isSome=(Zr kvs y).isSome:=by
 obtain⟨key,hy,hk⟩:∃key,yv=kV key/\QiQ y key:=by
  cases y with
  | int i m =>
   cases m with
   | zero=>obtain⟨j,rfl,c⟩:=ry;cases c.exact;exact⟨.inl i,rfl,rfl⟩
   | succ m=>cases ky
  | str z=>cases(show yv=_ from ry);exact⟨.inr ⟨z.toArray⟩,rfl,rfl⟩
  | _=>cases ky
 have inj:∀{p:U} {q:Key},QiQ p q->(p=y↔q=key):=by
  intro p q hp
  cases y with
  | int i m =>
   cases m with
   | succ m=>cases ky
   | zero =>
    cases(show key=_ from hk)
    cases p with
    | int j n =>
     cases n with
     | succ n=>exact(show False from hp).elim
     | zero=>cases(show q=_ from hp);exact⟨fun e=>(by cases e;rfl),fun e=>(by cases e;rfl)⟩
    | str z=>cases(show q=_ from hp);exact⟨fun e=>(by cases e),fun e=>(by cases e)⟩
    | _=>exact(show False from hp).elim
  | str z =>
   cases(show key=_ from hk)
   cases p with
   | int j n =>
    cases n with
    | succ n=>exact(show False from hp).elim
    | zero=>cases(show q=_ from hp);exact⟨fun e=>(by cases e),fun e=>(by cases e)⟩
   | str z' =>
    cases(show q=_ from hp)
    refine⟨fun e=>(by cases e;rfl),fun e=>?_⟩
    have e1:=Sum.inr.inj e;have e2:=congrArg (fun s:Str=>s.cps.toList) e1
    have e3:z'=z:=by simpa using e2
    rw [e3]
   | _=>exact(show False from hp).elim
  | _=>cases ky
 intro kvs r;refine⟨key,hy,?_⟩
 induction r with
 | nil=>rfl
 | @cons p q ps qs hpq t ih =>
  obtain⟨pk,pv⟩:=p;obtain⟨qk,qv⟩:=q;obtain⟨h1,v,h2,h3⟩:=hpq;simp only [Zr];by_cases e:pk=y
  ·have e2:qk=key:=(inj h1).mp e;rw [if_pos e];simp [valueAt,e2]
  ·have e2:¬qk=key:=fun z=>e ((inj h1).mpr z);rw [if_neg e,<-ih];simp only [valueAt,List.find?_cons];rw [decide_eq_false e2]
noncomputable def QmT(P:Program)(w:World)(K:PySem.W.Frag)(neg:Bool):R2:=fun x y H Q=>∃a vs key,y=.ref a/\(a==sysModules)=false/\x=kV key/\(∀h:Heap,K.In h->h.DictOf (Qq P w) a vs)/\Q (.bl (if neg then !(valueAt vs key).isSome else(valueAt vs key).isSome)) H
theorem QdR:OpR X (compareOp .In) (QmT X.prog X.w X.K false):=by
 intro pins s σ H x y v u Q I rx ry h;obtain⟨a,vs,key,rfl,ns,rfl,hd,q⟩:=h;cases ry;exact wpAny_in_of (YQ rx) ns (hd s.heap I.kIn).mapOf ⟨.bl _,H,I.tok _,rfl,q⟩
theorem Qaj:OpR X (compareOp .NotIn) (QmT X.prog X.w X.K true):=by
 intro pins s σ H x y v u Q I rx ry h;obtain⟨a,vs,key,rfl,ns,rfl,hd,q⟩:=h;cases ry;exact wpAny_notIn_of (YQ rx) ns (hd s.heap I.kIn).mapOf ⟨.bl _,H,I.tok _,rfl,q⟩
theorem QcB{f:Value->Value->Sem Value}{r r':R2}(h:OpR X f r)(h':OpR X f r'):OpR X f (fun x y H Q=>r x y H Q\/r' x y H Q):=fun pins s σ H x y v u Q I rx ry q=>q.elim (h pins s σ H x y v u Q I rx ry) (h' pins s σ H x y v u Q I rx ry)
theorem Qdg{neg:Bool}{α:List Addr}{u w:U}{v y:V}{H:Hp}{Q:VK}{c:Bool}(tab:Qbq X.prog X.w T A X.K)(h:Ql5 T w u=some c)(ru:RU A α u v)(rw':RU A α w y)(q:Q (.bl (if neg then !c else c)) H):QmT X.prog X.w X.K neg v y H Q\/∃i j,v=.str i/\y=.str j/\Q (.bl (if neg then !(!(Builtin.Str.occurrences j i 0 j.length 1).isEmpty)else !(Builtin.Str.occurrences j i 0 j.length 1).isEmpty)) H:=by
 unfold Ql5 at h;split at h
 case h_3=>cases h
 case h_2 =>
  split at h
  ·rename_i y' x';cases h;cases(show v=_ from ru);cases(show y=_ from rw');exact .inr ⟨_,_,rfl,rfl,q⟩
  ·cases h
 rename_i k;refine .inl ?_;split at h
 case h_2=>cases h
 rename_i kvs ec;split at h
 case isFalse=>cases h
 rename_i ky;cases h;obtain⟨vs,ns,hd,hp⟩:=tab k kvs ec;obtain⟨key,ev,e⟩:=Qhy ky ru hp;cases(show y=_ from rw')
 exact⟨_,vs,key,rfl,ns,ev,hd,by rw [e];exact q⟩
noncomputable def QoP(X:Cx)(T:Tbl)(A:Adr)(o:CmpOp):Prop:=∃r,OpR X (compareOp o) r/\∀{α:List Addr} {u w:U} {hs:Hs} {v y:V} {H:Hp} {Q:VK} {c:Bool},Zn T o u w hs=some c->RU A α u v->RU A α w y->Rep T A X.K α hs H->Q (.bl c) H->r v y H Q
theorem Qch{o:CmpOp}{p:Int->Int->Bool}(ho:OpR X (compareOp o) (rI0 fun i j=>.bl (p i j)))(hc:∀u w hs,Zn T o u w hs=match u,w with | .int i 0,.int j 0=>some (p i j) | _,_=>none):QoP X T A o:=by
 refine⟨_,ho,?_⟩;intro α u w hs v y H Q c h ru rw' R q;rw [hc]at h;split at h
 ·cases h;obtain⟨i',rfl,a⟩:=ru;obtain⟨j',rfl,b⟩:=rw';cases a.exact;cases b.exact;exact⟨_,_,rfl,rfl,q⟩
 ·cases h
theorem Qpz(tx:Txt T A X.K X.mg)(tab:Qbq X.prog X.w T A X.K)(hu:X.A.units+64<cLine)(o:CmpOp):QoP X T A o:=by
 cases o with
 | Eq =>
  refine⟨_,OpR.or Qnd (OpR.or (Qk1 tx hu) (OpR.or (Qk0 tx hu) (Qk2 tx hu))),?_⟩;intro α u w hs v y H Q c h ru rw' R q;simp only [Zn,eqA]at h;split at h
  ·rename_i b e;cases h;obtain⟨h1,h2⟩:=Qhf e ru rw'
   exact .inl ⟨h1,by rw [h2];exact q⟩
  ·split at h
   ·rename_i c;cases h;exact .inr (.inl ⟨α,u,w,hs,ru,rw',R,c,q⟩)
   ·split at h
    ·rename_i c;cases h;exact .inr (.inr (.inl ⟨α,u,w,hs,ru,rw',R,c,q⟩))
    ·split at h
     ·rename_i c;cases h;rw [Bool.and_eq_true]at c;exact .inr (.inr (.inr ⟨α,u,w,hs,ru,rw',R,c.1,c.2,q⟩))
     ·cases h
 | NotEq =>
  refine⟨_,OpR.or Qm8 (OpR.or (QkV tx hu) (OpR.or (QkU tx hu) (QkW tx hu))),?_⟩;intro α u w hs v y H Q c h ru rw' R q;simp only [Zn,Option.map_eq_some_iff,eqA]at h;obtain⟨d,h,e⟩:=h;split at h
  ·rename_i b eb;cases h;obtain⟨h1,h2⟩:=Qhf eb ru rw'
   exact .inl ⟨h1,by rw [h2,e];exact q⟩
  ·split at h
   ·rename_i cc;cases h;refine .inr (.inl ⟨α,u,w,hs,ru,rw',R,cc,?_⟩);rw [show(true:Bool)=c from e];exact q
   ·split at h
    ·rename_i cc;cases h;refine .inr (.inr (.inl ⟨α,u,w,hs,ru,rw',R,cc,?_⟩));rw [show(false:Bool)=c from e];exact q
    ·split at h
     ·rename_i cc;cases h;rw [Bool.and_eq_true]at cc;refine .inr (.inr (.inr ⟨α,u,w,hs,ru,rw',R,cc.1,cc.2,?_⟩));rw [if_pos rfl,e];exact q
     ·cases h
 | Lt=>exact Qch Qm9 fun _ _ _=>rfl
 | LtE=>exact Qch Qna fun _ _ _=>rfl
 | Gt=>exact Qch Qnb fun _ _ _=>rfl
 | GtE=>exact Qch Qnc fun _ _ _=>rfl
 | Is =>
  refine⟨_,QkY,?_⟩;intro α u w hs v y H Q c h ru rw' R q;simp only [Zn]at h;split at h
  ·cases h;refine⟨rw',?_⟩
   have e:decide (v=.non)=decide (u=.non):=by
    cases u with
    | non=>cases(show v=_ from ru);rfl
    | bl b=>cases(show v=_ from ru);rfl
    | int i m=>obtain⟨_,rfl,_⟩:=ru;rfl
    | str x=>cases(show v=_ from ru);rfl
    | ref n=>obtain⟨_,_,rfl⟩:=ru;rfl
    | con k=>cases(show v=_ from ru);rfl
    | scr=>cases(show v=_ from ru);rfl
   rw [e];exact q
  ·cases h
 | IsNot =>
  refine⟨_,Qir,?_⟩;intro α u w hs v y H Q c h ru rw' R q;simp only [Zn]at h;split at h
  ·cases h;refine⟨rw',?_⟩
   have e:decide (v=.non)=decide (u=.non):=by
    cases u with
    | non=>cases(show v=_ from ru);rfl
    | bl b=>cases(show v=_ from ru);rfl
    | int i m=>obtain⟨_,rfl,_⟩:=ru;rfl
    | str x=>cases(show v=_ from ru);rfl
    | ref n=>obtain⟨_,_,rfl⟩:=ru;rfl
    | con k=>cases(show v=_ from ru);rfl
    | scr=>cases(show v=_ from ru);rfl
   rw [e];exact q
  ·cases h
 | In =>
  refine⟨_,QcB QdT (QcB (QkZ (by omega)) (QcB QdR QdS)),?_⟩
  intro α u w hs v y H Q c h ru rw' R q;simp only [Zn]at h;split at h
  ·rename_i xs e;obtain⟨a,vs,rfl,rr,sq⟩:=YF (K':=X.K) tx R e rw';unfold inU at h;split at h
   ·rename_i f;cases h;rw [Bool.and_eq_true]at f;obtain⟨h1,h2⟩:=Qeq f.1 ru rr f.2
    exact .inl ⟨a,vs,rfl,sq,Qbd f.1 ru,h1,by rw [h2];exact q⟩
   ·cases h
  ·exact .inr ((Qhb (neg:=false) R h ru rw' q).imp id fun h=>Qdg (neg:=false) tab h ru rw' q)
 | NotIn =>
  refine⟨_,QcB Qak (QcB (QdQ (by omega)) (QcB Qaj Qai)),?_⟩
  intro α u w hs v y H Q c h ru rw' R q;simp only [Zn]at h;split at h
  ·rename_i xs e;obtain⟨a,vs,rfl,rr,sq⟩:=YF (K':=X.K) tx R e rw';simp only [Option.map_eq_some_iff]at h;obtain⟨d,h,e2⟩:=h;unfold inU at h;split at h
   ·rename_i f;cases h;rw [Bool.and_eq_true]at f;obtain⟨h1,h2⟩:=Qeq f.1 ru rr f.2
    exact .inl ⟨a,vs,rfl,sq,Qbd f.1 ru,h1,by rw [h2];simp only [if_true];rw [e2];exact q⟩
   ·cases h
  ·simp only [Option.map_eq_some_iff]at h;obtain⟨d,h,e2⟩:=h
   have q':Q (.bl (if true=true then !d else d)) H:=by simp only [if_true];rw [e2];exact q
   exact .inr ((Qhb (neg:=true) R h ru rw' q').imp id fun h=>Qdg (neg:=true) tab h ru rw' q')
theorem QlU{α:List Addr}{us:List U}{vs:List V}{i:Int}{u:U}(r:RUs A α us vs)(h:atU us i=some u):∃v,atI vs i=some v/\RU A α u v:=by
 unfold atU at h;split at h
 ·rename_i j e;obtain⟨v,h1,h2⟩:=r.get h;refine⟨v,?_,h2⟩
  have e':ixN vs.length i=some j:=by rw [<-r.length];exact e
  unfold atI;rw [e'];exact h1
 ·cases h
theorem Qn9{xs:List Nat}{i:Int}{c:Nat}(h:atU xs i=some c):atI xs i=some c:=by
 unfold atU at h;split at h
 ·rename_i j e;have e':ixN xs.length i=some j:=e;unfold atI;rw [e'];exact h
 ·cases h
theorem QhH{α:List Addr}{u w x:U}{hs:Hs}{v y:V}{H:Hp}{Q:VK}(tx:Txt T A X.K X.mg)(h:QH T u w hs=some x)(ru:RU A α u v)(rw':RU A α w y)(R:Rep T A X.K α hs H)(k:∀z,RU A α x z->Q z H):rIx X.K v y H Q\/QmW v y H Q:=by
 have seq:∀{xs:List U} {i:Int},ZN T u hs=some xs->w=.int i 0->atU xs i=some x->rIx X.K v y H Q\/QmW v y H Q:=fun {xs i} e1 e2 e3=>by
  subst e2;obtain⟨j,rfl,c⟩:=rw';cases c.exact;obtain⟨a,vs,rfl,rr,sq⟩:=YF (K':=X.K) tx R e1 ru;obtain⟨z,h1,h2⟩:=QlU rr e3
  rcases sq with sq | sq
  ·exact .inl (.inl ⟨a,vs,i,z,rfl,rfl,sq,h1,k z h2⟩)
  ·exact .inl (.inr (.inl ⟨a,vs,i,z,rfl,rfl,sq,h1,k z h2⟩))
 cases u with
 | str z =>
  cases w with
  | int i m =>
   cases m with
   | succ m=>simp [QH,ZN]at h
   | zero =>
    simp only [QH]at h;split at h
    ·rename_i l;simp only [Option.map_eq_some_iff]at h;obtain⟨c,e,rfl⟩:=h;cases(show v=_ from ru);obtain⟨j,rfl,q⟩:=rw';cases q.exact
     exact .inl (.inr (.inr ⟨_,i,c,rfl,rfl,by rw [Zx];exact Nat.le_trans l big,by simpa using Qn9 e,k _ (by show _=_;rfl)⟩))
    ·cases h
  | _=>simp [QH,ZN]at h
 | ref n =>
  simp only [QH]at h;split at h
  ·rename_i xs i e
   exact seq (by simp only [ZN,e]) rfl h
  ·rename_i xs i e
   exact seq (by simp only [ZN,e]) rfl h
  ·rename_i o e _ _;obtain⟨a,ha,rfl⟩:=ru;simp only [Option.bind_eq_some_iff,id_eq]at h;obtain⟨r,h1,h2⟩:=h
   rcases Qbl R e ha h1 rw' with⟨h3,_⟩ | ⟨u',v',h3,g,rv⟩
   ·rw [h3]at h2;cases h2
   ·rw [h3]at h2;cases h2;exact .inr ⟨a,v',rfl,g,k v' rv⟩
  ·cases h
 | con n =>
  cases w with
  | int i m =>
   cases m with
   | succ m=>simp [QH]at h
   | zero =>
    simp only [QH]at h;split at h
    ·rename_i xs e;exact seq e rfl h
    ·cases h
  | _=>simp [QH]at h
 | scr =>
  cases w with
  | int i m =>
   cases m with
   | succ m=>simp [QH]at h
   | zero =>
    simp only [QH]at h;split at h
    ·rename_i xs e;exact seq e rfl h
    ·cases h
  | _=>simp [QH]at h
 | _ =>
  cases w with
  | int i m=>cases m<;>simp [QH,ZN]at h
  | _=>simp [QH]at h
theorem RUs.drop{α:List Addr}:∀(n:Nat) {us:List U} {vs:List V},RUs A α us vs->RUs A α (us.drop n) (vs.drop n)
 | 0,_,_,r=>r
 | _+1,_,_,.nil=>.nil
 | n+1,_,_,.cons _ t=>RUs.drop n t
theorem RUs.take{α:List Addr}:∀(n:Nat) {us:List U} {vs:List V},RUs A α us vs->RUs A α (us.take n) (vs.take n)
 | 0,_,_,_=>.nil
 | _+1,_,_,.nil=>.nil
 | n+1,_,_,.cons r t=>.cons r (RUs.take n t)
theorem Z5(n d:Nat)(o:Option Int):Zm n d o=HT.sIx n d o:=by cases o<;>rfl
theorem RUs.cut{α:List Addr}{us:List U}{vs:List V}(r:RUs A α us vs)(lo hi:Option Int):RUs A α (Zi us lo hi) (Qhi vs lo hi):=by
 unfold Zi Qhi;rw [Z5,Z5,r.length];exact RUs.take _ (RUs.drop _ r)
theorem Qgt(x:List Nat)(lo hi:Option Int):(Txt.slice ⟨x.toArray⟩ lo hi)=⟨(Zi x lo hi).toArray⟩:=by
 have h:=Qds ⟨x.toArray⟩ lo hi
 have e:(⟨x.toArray⟩:Str).length=x.length:=by simp [Str.length]
 rw [e]at h;apply Str.ext';apply Array.toList_inj.mp;rw [h];simp only [Zi,Z5]
theorem Qj6{α:List Addr}{u x:U}{hs hs':Hs}{v:V}{H:Hp}{Q:VK}{lo hi:Option Int}(h:slU T u lo hi hs=some (x,hs'))(ru:RU A α u v)(R:Rep T A X.K α hs H)(k:∀α' z H',Ext α α' H H'->Rep T A X.K α' hs' H'->RU A α' x z->Q z H'):Qor X.K v lo hi H Q\/(Qop X.K v lo hi H Q\/Qoq v lo hi H Q):=by
 cases u with
 | scr =>
  simp only [slU]at h;cases h;obtain⟨vs,rr,q⟩:=R.s.sq (α:=α);refine .inl ⟨_,vs,ru,q,fun p hp=>?_⟩;obtain⟨R',E'⟩:=R.new (o:=.lst (Zi T.scr lo hi)) hp ⟨_,Qf,RUs.mono Qu (rr.cut lo hi)⟩
  exact k _ _ _ E' R' ⟨p,by rw [<-R.h.len];exact QG,rfl⟩
 | ref n =>
  simp only [slU]at h;split at h
  ·rename_i xs e;cases h;obtain⟨a,ha,rfl⟩:=ru;obtain⟨vs,q,rr⟩:=R.h.ob n a _ ha e;refine .inl ⟨_,vs,rfl,SqL.of q,fun p hp=>?_⟩;obtain⟨R',E'⟩:=R.new (o:=.lst (Zi xs lo hi)) hp ⟨_,Qf,RUs.mono Qu (rr.cut lo hi)⟩
   exact k _ _ _ E' R' ⟨p,by rw [<-R.h.len];exact QG,rfl⟩
  ·rename_i xs e;split at h
   ·cases h
   rename_i hw;cases h;obtain⟨a,ha,rfl⟩:=ru;obtain⟨vs,q,rr⟩:=R.h.ob n a _ ha e;refine .inr (.inl ⟨_,vs,rfl,SqT.of q,?_,fun p hp=>?_⟩)
   ·rw [Z5,Z5,rr.length]at hw;exact hw
   obtain⟨R',E'⟩:=R.new (o:=.tup (Zi xs lo hi)) hp ⟨_,Qf,RUs.mono Qu (rr.cut lo hi)⟩
   exact k _ _ _ E' R' ⟨p,by rw [<-R.h.len];exact QG,rfl⟩
  ·cases h
 | str y =>
  simp only [slU]at h;split at h
  ·rename_i l;cases h;cases(show v=_ from ru)
   refine .inr (.inr ⟨_,rfl,by rw [Zx];exact Nat.le_trans l big,?_⟩)
   rw [Qgt];exact k α _ H Ext.refl R rfl
  ·cases h
 | _=>simp [slU]at h
end
end Iv
namespace Iv
open PySem PySem.Spec PyProof.Rows L2
section
variable {X:Cx}{T:Tbl}{A:Adr}{C:Ctx}
theorem Y0{e:Expr}{t:TE}(h:∀σ H Q,¬t σ H Q):PE X e t:=fun _ _ σ H Q _ q=>(h σ H Q q).elim
theorem Qnq(K:PySem.W.Frag){k t:Ty}{b:Bool}(h:Qnt k t=some b)(A:Adr):PySem.W.kitOne K (tyW A k) (tyW A t)=some b:=by
 cases k<;>cases t<;>simp only [Qnt]at h<;>first | (cases h;done) | (cases h;rfl) | (cases h;kernel_rfl)
theorem QiN{α:List Addr}{u:U}{hs:Hs}{v:V}{H:Hp}{k:Ty}(tx:Txt T A X.K X.mg)(h:Qa8 u hs=some k)(r:RU A α u v)(R:Rep T A X.K α hs H):TyE X.K H v (tyW A k):=by
 cases u with
 | non=>cases h;cases(show v=_ from r);exact .inl .non
 | bl b=>cases h;cases(show v=_ from r);exact .inl (.bl b)
 | int i m=>cases h;obtain⟨j,rfl,_⟩:=r;exact .inl (.int j)
 | str x=>cases h;cases(show v=_ from r);exact .inl (.str _)
 | ref n =>
  obtain⟨a,ha,rfl⟩:=r;simp only [Qa8]at h;split at h
  ·rename_i xs e;cases h;obtain⟨vs,q,_⟩:=R.h.ob n a _ ha e;exact .inl (.lst q)
  ·rename_i xs e;cases h;obtain⟨vs,q,_⟩:=R.h.ob n a _ ha e;exact .inl (.tup q)
  ·rename_i kvs e;cases h;obtain⟨kv,q,_⟩:=R.h.ob n a _ ha e;exact .inl (.dK q)
  ·rename_i kvs e;cases h;obtain⟨kv,q,_⟩:=R.h.ob n a _ ha e;exact .inl (.dT q)
  ·rename_i c fs e;cases h;obtain⟨dx,fv,q,_,l⟩:=R.h.ob n a _ ha e;exact .inl ((tx.cl c _ (List.getElem?_eq_getElem l)).ty H a dx fv q)
  ·rename_i c e;cases h;obtain⟨q,l⟩:=R.h.ob n a _ ha e;exact .inr ⟨a,A.c c,rfl,rfl,q,(tx.er c l).1⟩
  ·cases h
 | _=>simp [Qa8]at h
theorem Qlq{α:List Addr}{u:U}{hs:Hs}{v:V}{H:Hp}{t:Ty}{b:Bool}(tx:Txt T A X.K X.mg)(h:QcZ T t u hs=some b)(r:RU A α u v)(R:Rep T A X.K α hs H):∃tv,TyE X.K H v tv/\PySem.W.kitOne X.K tv (tyW A t)=some b:=by
 unfold QcZ at h;split at h
 ·cases h
 ·rename_i k e;refine⟨tyW A k,QiN tx e r R,?_⟩;split at h
  ·rename_i b' e';cases h;exact Qnq X.K e' A
  ·exact tx.isi k t b h
theorem Ql{α:List Addr}{u:U}{us:List U}{vs:List V}(r:RUs A α (u::us) vs):∃v ws,vs=v::ws/\RU A α u v/\RUs A α us ws:=by cases r with | cons a b=>exact⟨_,_,rfl,a,b⟩
theorem Qx{α:List Addr}{vs:List V}(r:RUs A α [] vs):vs=[]:=by cases r;rfl
noncomputable def BiS(X:Cx)(T:Tbl)(A:Adr)(b:Bi)(f:Value):Prop:=∃r,CallR X f r/\∀{α:List Addr} {us:List U} {u':U} {hs hs':Hs} {vs:List V} {H:Hp} {Q:VK},biU T b us hs=some (u',hs')->RUs A α us vs->Rep T A X.K α hs H ->
 (∀α' v' H',Ext α α' H H'->Rep T A X.K α' hs' H'->RU A α' u' v'->Q v' H')->r vs H Q
theorem Qjm(tx:Txt T A X.K X.mg):BiS X T A .len (.builtin "len"):=by
 refine⟨_,CallR.or (CallR.or QaD QaC) QeY,?_⟩;intro α us u' hs hs' vs H Q h r R k
 have seq:∀{u:U} {xs:List U},us=[u]->ZN T u hs=some xs->(u',hs')=(U.int xs.length 0,hs)->(∃p ys,vs=[V.ref p]/\(SqL X.K H p ys\/SqT X.K H p ys)/\Q (.int ys.length) H):=fun {u xs} e1 e2 e3=>by
  subst e1;cases e3;obtain⟨v,ws,rfl,ru,rn⟩:=Ql r;cases Qx rn;obtain⟨a,ys,rfl,rr,sq⟩:=YF (K':=X.K) tx R e2 ru
  exact⟨a,ys,rfl,sq,k α _ H Ext.refl R ⟨_,rfl,by rw [rr.length];exact Cg.refl _ _⟩⟩
 cases us with
 | nil=>first | exact nomatch (show(none:Option (U×Hs))=some _ from h) | simp [biU]at h
 | cons u t =>
  cases t with
  | cons _ _=>cases u<;>first | exact nomatch (show(none:Option (U×Hs))=some _ from h) | simp [biU]at h
  | nil =>
   cases u with
   | str x =>
    unfold biU at h;try dsimp only at h;split at h
    ·rename_i l;cases h;obtain⟨v,ws,rfl,ru,rn⟩:=Ql r;cases Qx rn;cases(show v=_ from ru)
     refine .inl (.inr ⟨_,rfl,by rw [Zx];exact Nat.le_trans l big,k α _ H Ext.refl R ⟨_,rfl,?_⟩⟩)
     rw [Zx];exact Cg.refl _ _
    ·cases h
   | ref n =>
    unfold biU at h;try dsimp only at h;split at h
    ·rename_i xs e;exact .inl (.inl (seq rfl e (Option.some.inj h).symm))
    ·simp only [Qmd]at h;split at h
     ·rename_i kvs hp;cases h;obtain⟨v,ws,rfl,ru,rn⟩:=Ql r;cases Qx rn;obtain⟨a,ha,rfl⟩:=ru;obtain⟨kv,hH,rd⟩:=R.h.ob n a _ ha hp
      exact .inr ⟨a,kv,rfl,hH,k α _ H Ext.refl R ⟨_,rfl,by rw [Paired.length rd];exact Cg.refl _ _⟩⟩
     ·cases h
   | con n =>
    unfold biU at h;try dsimp only at h;split at h
    ·rename_i xs e;exact .inl (.inl (seq rfl e (Option.some.inj h).symm))
    ·cases h
   | scr =>
    unfold biU at h;try dsimp only at h;split at h
    ·rename_i xs e;exact .inl (.inl (seq rfl e (Option.some.inj h).symm))
    ·cases h
   | _=>unfold biU at h;simp [ZN,Qmd]at h
theorem Qe9:BiS X T A .tuple (.type "tuple"):=by
 refine⟨_,JL,?_⟩;intro α us u' hs hs' vs H Q h r R k
 cases us with
 | nil=>first | exact nomatch (show(none:Option (U×Hs))=some _ from h) | simp [biU]at h
 | cons u t =>
  cases t with
  | cons _ _=>cases u<;>first | exact nomatch (show(none:Option (U×Hs))=some _ from h) | simp [biU]at h
  | nil =>
   obtain⟨v,ws,rfl,ru,rn⟩:=Ql r;cases Qx rn
   cases u with
   | ref n =>
    obtain⟨a,ha,rfl⟩:=ru;unfold biU at h;try dsimp only at h;split at h
    ·rename_i xs e;cases h;obtain⟨ys,q,rr⟩:=R.h.ob n a _ ha e;refine⟨a,ys,rfl,.inl ⟨SqL.of q,fun p hp=>?_⟩⟩;obtain⟨R',E'⟩:=R.new (o:=.tup xs) hp ⟨_,Qf,RUs.mono Qu rr⟩
     exact k _ _ _ E' R' ⟨p,by rw [<-R.h.len];exact QG,rfl⟩
    ·rename_i xs e;cases h;obtain⟨ys,q,rr⟩:=R.h.ob n a _ ha e;exact⟨a,ys,rfl,.inr ⟨SqT.of q,k α _ H Ext.refl R ⟨a,ha,rfl⟩⟩⟩
    ·cases h
   | _=>first | exact nomatch (show(none:Option (U×Hs))=some _ from h) | simp [biU]at h
theorem JE{α:List Addr}:∀{ys:List U} {ns:List Int} {vs:List V},Qau ys=some ns->RUs A α ys vs->vs=ns.map V.int
 | [],_,_,h,r=>by cases h;cases Qx r;rfl
 | u::ys,ns,vs,h,r=>by
  cases u with
  | int i m =>
   cases m with
   | succ m=>simp [Qau]at h
   | zero =>
    simp only [Qau,Option.map_eq_some_iff]at h;obtain⟨ns',h,rfl⟩:=h;obtain⟨v,ws,rfl,ru,rn⟩:=Ql r;obtain⟨j,rfl,c⟩:=ru;cases c.exact;rw [JE h rn];rfl
  | _=>simp [Qau]at h
theorem Qhd{α:List Addr}{i:Int}{v:V}(r:RU A α (.int i 0) v):v=.int i:=by
 obtain⟨j,rfl,c⟩:=r;cases c.exact;rfl
theorem CallR.or{f:Value}{r1 r2:List V->Hp->VK->Prop}(h1:CallR X f r1)(h2:CallR X f r2):CallR X f (fun xs H Q=>r1 xs H Q\/r2 xs H Q):=by
 intro pins s σ H xs us Q I r h
 rcases h with h | h
 ·exact h1 pins s σ H xs us Q I r h
 ·exact h2 pins s σ H xs us Q I r h
theorem Qjl(tx:Txt T A X.K X.mg)(hc:X.calm=true):BiS X T A .max (.builtin "max"):=by
 refine⟨_,CallR.or (QeW hc) (QeX hc),?_⟩;intro α us u' hs hs' vs H Q h r R k;have h:biL T .max us hs=some (u',hs'):=h;unfold biL at h;split at h<;>try contradiction
 ·simp only [Option.bind_eq_some_iff,Option.map_eq_some_iff]at h;obtain⟨xs,el,ns,en,m,em,h⟩:=h;cases h;obtain⟨v,ws,rfl,ru,rn⟩:=Ql r;cases Qx rn;obtain⟨a,vs,rfl,rr,sq⟩:=QO tx R el ru;cases JE en rr;refine .inl ⟨a,ns,rfl,sq,?_,fun M h1 h2=>?_⟩
  ·cases ns with
   | nil=>cases em
   | cons _ _=>exact Nat.succ_pos _
  ·cases QiJ em h1 h2;exact k α _ H Ext.refl R ⟨_,rfl,Cg.refl _ _⟩
 ·refine .inr ?_;cases h;obtain⟨v,ws,rfl,ru,rn⟩:=Ql r;obtain⟨v2,ws,rfl,ru2,rn⟩:=Ql rn;cases Qx rn;cases Qhd ru;cases Qhd ru2;exact⟨_,_,rfl,k α _ H Ext.refl R ⟨_,rfl,Cg.refl _ _⟩⟩
theorem Qlo{u:U}{v:V}{hs:Hs}{H:Hp}{k:List Int}(R:Rep T A X.K α hs H)(r:RU A α u v)(h:itU hs u=some k):k≠[]/\∃b,v=.ref b/\SqT X.K H b (k.map V.int):=by
 unfold itU at h;split at h
 case h_2=>cases h
 obtain⟨a,ha,rfl⟩:=r;split at h
 case h_2=>cases h
 rename_i k0 ks e;obtain⟨vs,q,rr⟩:=R.h.ob _ a _ ha e;have hl:=rr.length;cases JE h rr;refine⟨fun z=>?_,a,rfl,SqT.of q⟩;subst z;simp at hl
theorem Qek{hs:Hs}{H:Hp}(R:Rep T A X.K α hs H):∀{xs:List U} {ys:List V} {ks:List (List Int)},RUs A α xs ys->QiT hs xs=some ks->QlZ X.K H ys ks
 | [],ys,ks,rr,h=>by
  cases h;cases rr
  exact⟨rfl,fun i y k e=>by simp at e⟩
 | u::us,ys,ks,rr,h=>by
  simp only [QiT,Option.bind_eq_some_iff,Option.map_eq_some_iff]at h;obtain⟨k,hk,ks',hks,rfl⟩:=h;obtain⟨v,ws,rfl,ru,rn⟩:=Ql rr;obtain⟨l,f⟩:=Qek R rn hks
  refine⟨by simp [l],fun i y k' e1 e2=>?_⟩
  cases i with
  | zero =>
   simp at e1 e2;subst e1 e2;exact Qlo R ru hk
  | succ i=>exact f i y k' (by simpa using e1) (by simpa using e2)
theorem QfG{α':List Addr}{ks:List (List Int)}{xs:List U}{ys:List V}(rr:RUs A α' xs ys):RUs A α' (Qcw ks xs) (QaQ ks ys):=by
 unfold Qcw QaQ;rw [rr.length];generalize permK ks ys.length=p
 induction p with
 | nil=>exact .nil
 | cons i p ih =>
  refine .cons ?_ ih
  cases e:xs[i]? with
  | none =>
   have e2:ys[i]?=none:=by
    rw [List.getElem?_eq_none_iff]at e ⊢;rw [<-rr.length];exact e
   simp [List.getD,e,e2,RU]
  | some u =>
   obtain⟨v,hv,rv⟩:=rr.get e;simpa [List.getD,e,hv]using rv
theorem QcV(tx:Txt T A X.K X.mg):BiS X T A .sorted (.builtin "sorted"):=by
 refine⟨_,QcO,?_⟩;intro α us u' hs hs' vs H Q h r R k;have h:biL T .sorted us hs=some (u',hs'):=h
 obtain⟨u,rfl⟩:∃u,us=[u]:=by
  match us,h with
  | [],h=>exact nomatch (show(none:Option (U×Hs))=some _ from h)
  | _::_::_,h=>exact nomatch (show(none:Option (U×Hs))=some _ from h)
  | [u],_=>exact⟨u,rfl⟩
 have h:Option.bind (QA T u hs) _=some (u',hs'):=h;simp only [Option.bind_eq_some_iff]at h;obtain⟨xs,el,h⟩:=h;split at h
 case isFalse=>cases h
 rename_i h64;simp only [Option.map_eq_some_iff]at h;obtain⟨ks,hk,h⟩:=h;cases h;obtain⟨v,ws,rfl,ru,rn⟩:=Ql r;cases Qx rn;obtain⟨a,ys,rfl,rr,sq⟩:=QO tx R el ru;have hl:=rr.length
 refine⟨a,ys,ks,rfl,sq,by omega,fun h2=>?_,fun p hp=>?_⟩
 ·rw [if_neg (by omega)]at hk
  exact Qek R rr hk
 ·obtain⟨R2,E2⟩:=R.new (p:=p) (o:=.lst (Qcw ks xs)) (ho:=.lst (QaQ ks ys)) hp ⟨_,Qf,RUs.mono Qu (QfG rr)⟩
  exact k _ _ _ E2 R2 ⟨p,by rw [<-R.h.len];exact QG,rfl⟩
theorem QgU{α:List Addr}{hs:Hs}{H:Hp}{K:PySem.W.Frag}(R:Rep T A K α hs H):∀{xs:List U} {vs:List V} {kvs:List (List U×U)},Qjy hs xs=some kvs->RUs A α xs vs ->
  ∃kv:List (List Key×V),RT A α kvs kv/\Paired (fun(v:V) (p:List Key×V)=>∃t kb,v=.ref t/\H t=some (.tup [.ref kb,p.2])/\H kb=some (.tup (p.1.map kV))) vs kv
 | [],vs,kvs,h,r=>by cases h;cases Qx r;exact⟨[],.nil,.nil⟩
 | u::xs,vs,kvs,h,r=>by
  cases u with
  | ref p =>
   simp only [Qjy]at h;split at h
   ·rename_i k v hp;simp only [Option.bind_eq_some_iff,Option.map_eq_some_iff]at h;obtain⟨t,ht,l,hl,rfl⟩:=h;obtain⟨y,ws,rfl,ru,rn⟩:=Ql r;obtain⟨kv,q1,q2⟩:=QgU R hl rn;obtain⟨a,ha,rfl⟩:=ru;obtain⟨zs,ez,rz⟩:=R.h.ob p a _ ha hp;obtain⟨y1,zs1,rfl,s1,rn1⟩:=Ql rz;obtain⟨y2,zs2,rfl,s2,rn2⟩:=Ql rn1;cases Qx rn2;obtain⟨b,kk,rfl,rk,hb⟩:=Qfz R ht s1;exact⟨(kk,y2)::kv,.cons ⟨rk,s2⟩ q1,.cons ⟨a,b,rfl,ez,hb⟩ q2⟩
   ·cases h
  | _=>exact nomatch (show none=some _ from h)
theorem Qex{α:List Addr}:∀{kvs:List (List U×U)} {kv:List (List Key×V)} {acc:List (List U×U)} {acc':List (List Key×V)},RT A α kvs kv->RT A α acc acc'->RT A α (kvs.foldl (fun a p=>ZJ a p.1 p.2) acc) (kv.foldl (fun a p=>ZO a p.1 p.2) acc')
 | [],_,_,_,.nil,h=>h
 | p::kvs,q::kv,acc,acc',.cons r t,h=>Qex (kvs:=kvs) (kv:=kv) (acc:=ZJ acc p.1 p.2) (acc':=ZO acc' q.1 q.2) t (RG.put JF r.1 r.2 h)
theorem Qgz(hu:X.A.units+2<cLine)(hh:X.calm=true):BiS X T A .dict (.type "dict"):=by
 refine⟨_,QcP hu hh,?_⟩;intro α us u' hs hs' vs H Q h r R k;have h:biL T .dict us hs=some (u',hs'):=h
 obtain⟨u,rfl⟩:∃u,us=[u]:=by
  match us,h with
  | [],h=>exact nomatch (show(none:Option (U×Hs))=some _ from h)
  | _::_::_,h=>exact nomatch (show(none:Option (U×Hs))=some _ from h)
  | [u],_=>exact⟨u,rfl⟩
 have h:Option.bind (Qd2 u hs) _=some (u',hs'):=h;simp only [Option.bind_eq_some_iff,Option.map_eq_some_iff]at h;obtain⟨xs,el,kvs,hk,h⟩:=h;cases h;obtain⟨v,ws,rfl,ru,rn⟩:=Ql r;cases Qx rn
 cases u with
 | ref p =>
  simp only [Qd2]at el;split at el
  ·rename_i ys hp;cases el;obtain⟨a,ha,rfl⟩:=ru;obtain⟨zs,ez,rz⟩:=R.h.ob p a _ ha hp;obtain⟨kv,q1,q2⟩:=QgU R hk rz;refine⟨a,zs,kv,rfl,ez,q2,fun d hd=>?_⟩;obtain⟨R2,E2⟩:=R.new (p:=d) (o:=.dct (Qgl kvs)) (ho:=.dT (JG kv)) hd ⟨_,Qf,RT.mono Qu (Qex q1 .nil)⟩
   exact k _ _ _ E2 R2 ⟨d,by rw [<-R.h.len];exact QG,rfl⟩
  ·cases el
 | _=>exact nomatch (show none=some _ from el)
noncomputable def BmS(X:Cx)(T:Tbl)(A:Adr)(b:Bm)(id:String):Prop:=∃r,MtR X id r/\∀{α:List Addr} {o u':U} {us:List U} {hs hs':Hs} {x:V} {vs:List V} {H:Hp} {Q:VK},bmU T b o us hs=some (u',hs')->RU A α o x->RUs A α us vs->Rep T A X.K α hs H ->
 (∀α' v' H',Ext α α' H H'->Rep T A X.K α' hs' H'->RU A α' u' v'->Q v' H')->r x vs H Q
theorem Qe6{b:Bm}{o u':U}{us:List U}{hs hs':Hs}(h:bmU T b o us hs=some (u',hs'))(hb:∀x,bmS T b x us hs=none)(hd:∀n kvs,bmD b n kvs us hs=none):∃n xs,o=.ref n/\hs[n]?=some (.lst xs):=by
 cases o with
 | ref n =>
  simp only [bmU]at h;split at h
  ·rename_i xs e;exact⟨n,xs,rfl,e⟩
  ·rw [hd]at h;cases h
  ·cases h
 | str x =>
  simp only [bmU]at h;rw [hb]at h;cases h
 | _=>simp [bmU]at h
theorem QcU:BmS X T A .append "list.append":=by
 refine⟨_,Qan,?_⟩;intro α o u' us hs hs' x vs H Q h ro r R k;obtain⟨n,xs,rfl,e⟩:=Qe6 h (fun _=>rfl) (fun _ _=>rfl);obtain⟨a,ha,rfl⟩:=ro
 cases us with
 | nil=>simp [bmU,bmL,e]at h
 | cons u t =>
  cases t with
  | cons _ _=>simp [bmU,bmL,e]at h
  | nil =>
   simp only [bmU,bmL,e]at h;split at h
   ·rename_i l;cases h;obtain⟨v,ws,rfl,ru,rn⟩:=Ql r;cases Qx rn;obtain⟨ys,q,rr⟩:=R.h.ob n a _ ha e;refine⟨a,ys,v,rfl,rfl,q,?_,?_⟩
    ·rw [<-rr.length];exact Nat.lt_of_lt_of_le l big
    ·obtain⟨R',E'⟩:=R.put (o:=.lst (xs++[u])) ha ⟨_,Qf,rr.append (.cons ru .nil)⟩;exact k _ _ _ E' R' rfl
   ·cases h
theorem RUs.reverse{α:List Addr}:∀{us:List U} {vs:List V},RUs A α us vs->RUs A α us.reverse vs.reverse
 | _,_,.nil=>.nil
 | _,_,.cons r t=>by
  rw [List.reverse_cons,List.reverse_cons];exact RUs.append (RUs.reverse t) (.cons r .nil)
theorem QcT:BmS X T A .extend "list.extend":=by
 refine⟨_,Qd0,?_⟩;intro α o u' us hs hs' x vs H Q h ro r R k;obtain⟨n,xs,rfl,e⟩:=Qe6 h (fun _=>rfl) (fun _ _=>rfl);obtain⟨a,ha,rfl⟩:=ro
 cases us with
 | nil=>simp [bmU,bmL,e]at h
 | cons u t =>
  cases t with
  | cons _ _=>cases u<;>simp [bmU,bmL,e]at h
  | nil =>
   cases u with
   | ref m =>
    simp only [bmU,bmL,e]at h;split at h
    ·rename_i ys e2;split at h
     ·rename_i l;cases h;obtain⟨v,ws,rfl,ru,rn⟩:=Ql r;cases Qx rn;obtain⟨b,hb,rfl⟩:=ru;obtain⟨zs,q,rr⟩:=R.h.ob n a _ ha e;obtain⟨zt,q2,rr2⟩:=R.h.ob m b _ hb e2;refine⟨a,b,zs,zt,rfl,rfl,q,q2,?_,?_⟩
      ·rw [<-rr.length,<-rr2.length];exact Nat.le_trans l big
      ·obtain⟨R',E'⟩:=R.put (o:=.lst (xs++ys)) ha ⟨_,Qf,rr.append rr2⟩;exact k _ _ _ E' R' rfl
     ·cases h
    ·cases h
   | _=>simp [bmU,bmL,e]at h
theorem RK.eq{u w:U}{a b:Key}(h:RK u a)(h':RK w b):u=w↔a=b:=by
 cases u with
 | int i m =>
  obtain⟨rfl,rfl⟩:=h
  cases w with
  | int j n=>obtain⟨rfl,rfl⟩:=h';simp
  | str y=>cases(show b=_ from h');simp
  | _=>exact h'.elim
 | str x =>
  cases(show a=_ from h)
  cases w with
  | int j n=>obtain⟨rfl,rfl⟩:=h';simp
  | str y =>
   cases(show b=_ from h');constructor
   ·intro e;cases e;rfl
   ·intro e;have e1:=Sum.inr.inj e;have e2:=congrArg (fun t:Str=>t.cps.toList) e1;simp only at e2;rw [e2]
  | _=>exact h'.elim
 | _=>exact h.elim
theorem QiP{α:List Addr}{u:U}{v:V}(h:Y6 u=true)(r:RU A α u v):∃k,RK u k/\v=kV k:=by
 cases u with
 | int i m =>
  cases m with
  | zero=>obtain⟨j,rfl,c⟩:=r;cases c.exact;exact⟨.inl i,⟨rfl,rfl⟩,rfl⟩
  | succ m=>cases h
 | str x=>cases(show v=_ from r);exact⟨.inr _,rfl,rfl⟩
 | _=>cases h
noncomputable def QoO(A:Adr)(α:List Addr)(o:Option U)(v:Option V):Prop:=match o with
 | some x=>∃z,v=some z/\RU A α x z
 | none=>v=none
theorem Qb2{α:List Addr}{k:U}{k':Key}(hk:RK k k'):∀{kvs:List (U×U)} {kv:List (Key×V)},RD A α kvs kv->QoO A α (Zr kvs k) (ZQ kv k')
 | _,_,.nil=>rfl
 | _,_,.cons (a:=p) (b:=q) (l₁:=ps) (l₂:=qs) h t=>by
  obtain⟨p1,p2⟩:=p;obtain⟨h1,h2⟩:=h;have ih:=Qb2 hk t;have e:=RK.eq h1 hk;show QoO A α (if p1=k then some p2 else Zr ps k) (ZQ (q::qs) k');by_cases c:p1=k
  ·rw [if_pos c];exact⟨_,Yt (e.mp c),h2⟩
  ·rw [if_neg c,Yu fun z=>c (e.mpr z)];exact ih
theorem QcS:BmS X T A .setdef "dict.setdefault":=by
 refine⟨_,QdZ,?_⟩;intro α o u' us hs hs' x vs H Q h ro r R k
 cases o with
 | ref n =>
  simp only [bmU]at h;split at h
  ·simp [bmL]at h
  case h_3=>cases h
  rename_i kvs e;obtain⟨a,ha,rfl⟩:=ro;simp only [bmD]at h;split at h
  case h_2=>cases h
  rename_i ku u;split at h
  case isFalse=>cases h
  rename_i ck;obtain⟨vk,ws,rfl,rk,rn⟩:=Ql r;obtain⟨vy,ws,rfl,ry,rn⟩:=Ql rn;cases Qx rn;obtain⟨k',hk',rfl⟩:=QiP ck.1 rk;obtain⟨kv,q,rr⟩:=R.h.ob n a _ ha e;have lk:=Qb2 hk' rr;split at h
  ·rename_i x' ex;cases h;rw [ex]at lk;obtain⟨z,ez,rz⟩:=lk;refine⟨a,k',vy,kv,rfl,rfl,q,?_,fun z' ez'=>?_,fun en=>?_⟩
   ·rw [<-Paired.length rr];exact Nat.lt_of_lt_of_le ck.2 big
   ·rw [ez]at ez';cases ez';exact k α _ H Ext.refl R rz
   ·rw [ez]at en;cases en
  ·rename_i ex;cases h;rw [ex]at lk;have lk:ZQ kv k'=none:=lk;refine⟨a,k',vy,kv,rfl,rfl,q,?_,fun z' ez'=>?_,fun _=>?_⟩
   ·rw [<-Paired.length rr];exact Nat.lt_of_lt_of_le ck.2 big
   ·rw [lk]at ez';cases ez'
   ·obtain⟨R',E'⟩:=R.put (o:=.dic (kvs++[_])) ha ⟨_,Qf,Paired.snoc rr (show RK (Prod.fst (_,u')) (Prod.fst (k',vy))/\RU A α (Prod.snd (_,u')) (Prod.snd (k',vy))from⟨hk',ry⟩)⟩;exact k _ _ _ E' R' ry
 | _=>first | (simp [bmU,bmS]at h;done) | (simp [bmU]at h;done)
theorem Qjj(hu:X.A.units+1<cLine):BmS X T A .get "dict.get":=by
 refine⟨_,QiE hu,?_⟩;intro α o u' us hs hs' x vs H Q h ro r R k
 cases o with
 | ref n =>
  simp only [bmU]at h;split at h
  ·simp [bmL]at h
  case h_3=>cases h
  rename_i kvs e;obtain⟨a,ha,rfl⟩:=ro;simp only [bmD]at h;split at h
  case h_2=>cases h
  rename_i ku u;split at h
  case isFalse=>cases h
  rename_i ck;cases h;obtain⟨vk,ws,rfl,rk,rn⟩:=Ql r;obtain⟨vy,ws,rfl,ry,rn⟩:=Ql rn;cases Qx rn
  have g:=Qbl (o:=.dic kvs) (w:=ku) (r:=QF kvs ku) R e ha (by simp only [ZL];rw [if_pos ck]) rk
  rcases g with⟨h1,g⟩ | ⟨u1,v1,h1,g,rv⟩
  ·exact⟨a,vk,vy,none,rfl,rfl,g,k α vy H Ext.refl R (by rw [h1];exact ry)⟩
  ·exact⟨a,vk,vy,some v1,rfl,rfl,g,k α v1 H Ext.refl R (by rw [h1];exact rv)⟩
 | _=>first | (simp [bmU,bmS]at h;done) | (simp [bmU]at h;done)
theorem QcR:BmS X T A .update "dict.update":=by
 refine⟨_,QdY,?_⟩;intro α o u' us hs hs' x vs H Q h ro r R k
 cases o with
 | ref n =>
  simp only [bmU]at h;split at h
  ·simp [bmL]at h
  case h_3=>cases h
  rename_i kvs e;obtain⟨a,ha,rfl⟩:=ro;simp only [bmD]at h;split at h
  case h_2=>cases h
  rename_i m;split at h
  case h_2=>cases h
  rename_i more e2;split at h
  case isFalse=>cases h
  rename_i c;cases h;obtain⟨vy,ws,rfl,ry,rn⟩:=Ql r;cases Qx rn;obtain⟨b,hb,rfl⟩:=ry;obtain⟨kv,q,rr⟩:=R.h.ob n a _ ha e;obtain⟨mv,q2,rr2⟩:=R.h.ob m b _ hb e2;have l1:=RG.length rr;have l2:=RG.length rr2
  have ne:a≠b:=fun z=>by
   rcases R.h.nd n m a ha (z▸hb)with w | ⟨vs,w⟩
   ·exact c.1 w
   ·rw [q]at w;cases w
  refine⟨a,b,kv,mv,rfl,rfl,q,q2,ne,Nat.le_trans (by omega) big,?_⟩
  obtain⟨R',E'⟩:=R.put (o:=.dic (ZG kvs more)) (ho:=.dK (ZX kv mv)) ha ⟨_,Qf,RG.merge Jk rr2 rr⟩;exact k α .non _ E' R' rfl
 | _=>first | (simp [bmU,bmS]at h;done) | (simp [bmU]at h;done)
end
end Iv
namespace Iv
open PySem PySem.Spec PyProof.Rows L2
noncomputable def TIO(T:Tbl)(A:Adr)(K:PySem.W.Frag)(f:Rho->Hs->Option (Option Int×Hs)):TO:=fun σ H Q=>∃α ρ hs u hs',RS A α ρ σ/\Rep T A K α hs H/\f ρ hs=some (u,hs') /\
 ∀α' H',Ext α α' H H'->Rep T A K α' hs' H'->Q u H'
structure Fc(X:Cx)(T:Tbl)(A:Adr)(cf:Cf)(k:Nat):Prop where
 ok:∀f F,T.fns[f]?=some F->∃fd,FnOk X.prog X.w X.K X.mg X.base CX0 k (A.f f) fd F.ps (spC T A X.K cf f)/\Binds X.K fd F.ps []/\PySem.W.keepIn X.K (.ref (A.f f))=true
 some:∀f us hs r,cf f us hs=some r->∃F,T.fns[f]?=some F/\us.length=F.np
 df:∀i D F,T.dfl.lookup i=Option.some D->T.fns[i]?=Option.some F->∃fd,FnOk X.prog X.w X.K X.mg X.base CX0 k (A.f i) fd D.ps (spC T A X.K cf i)/\PySem.W.keepIn X.K (.ref (A.f i))=true/\Qmk A X.K fd D
 xf:∀f F,T.fns[f]?=Option.some F->∃fd,FnOk X.prog X.w X.K X.mg X.base (CXw X.prog X.w) k (A.f f) fd F.ps (spX T A X.K T.xf f)/\Binds X.K fd F.ps []/\PySem.W.keepIn X.K (.ref (A.f f))=true
structure Snd(T:Tbl)(A:Adr)(C:Ctx)(X:Cx)(cf:Cf)(m:Nat):Prop where
 e:∀d e ir,Qh m C e=some ir->PE X e (TI T A X.K (ev T cf d ir))
 t:∀d e ir,compT m C e=some ir->PT X e (TIT T A X.K (evT T cf d ir))/\PE X e (TI T A X.K (ev T cf d ir))
 an:∀d a r p ir,compAnd m C a r p=some ir->PW X (.BoolOp .And (a::r) p) (TIT T A X.K (evT T cf d ir))/\PE X (.BoolOp .And (a::r) p) (TI T A X.K (ev T cf d ir))
 orr:∀d a r p ir,compOr m C a r p=some ir->PW X (.BoolOp .Or (a::r) p) (TIT T A X.K (evT T cf d ir))/\PE X (.BoolOp .Or (a::r) p) (TI T A X.K (ev T cf d ir))
 a:∀d es irs,compA m C es=some irs->PA X es (TIA T A X.K (fun ρ hs=>evs (ev T cf d) ρ irs hs))
 o:∀d e ir,compO m C e=some ir->PO X e (TIO T A X.K (fun ρ hs=>evO (ev T cf d) ρ ir hs))
section
variable {X:Cx}{T:Tbl}{A:Adr}{C:Ctx}{cf:Cf}{m:Nat}
theorem Qbr{e:Expr}{t:TT}(h:∀σ H Q,¬t σ H Q):PT X e t:=fun _ _ σ H Q _ q=>(h σ H Q q).elim
theorem Qjt{e:Expr}{t:TT}(h:∀σ H Q,¬t σ H Q):PW X e t:=fun _ _ _ σ H Q _ q=>(h σ H Q q).elim
theorem Qk7{K:PySem.W.Frag}{ir:E}:∀σ H Q,¬TI T A K (ev T cf 0 ir) σ H Q:=fun _ _ _ ⟨_,_,_,_,_,_,_,h,_⟩=>nomatch h
theorem QdW{K:PySem.W.Frag}{ir:E}:∀σ H Q,¬TIT T A K (evT T cf 0 ir) σ H Q:=fun _ _ _ ⟨_,_,_,_,_,_,_,h,_⟩=>nomatch h
theorem Qz{e:Expr}{ir:E}{d:Nat}(h:∀d',PE X e (TI T A X.K (ev T cf (d'+1) ir))):PE X e (TI T A X.K (ev T cf d ir)):=by
 cases d with
 | zero=>exact Y0 Qk7
 | succ d=>exact h d
theorem QhW{c:Const}{k:Nat}{p:Pos}{d:Nat}{ir:E}(h:Qh (m+1) C (.Constant c k p)=some ir):PE X (.Constant c k p) (TI T A X.K (ev T cf d ir)):=by
 refine Qz fun d=>?_
 cases c with
 | int i=>cases h;exact QR QdN fun σ H Q ⟨α,ρ,hs,u,hs',rs,R,e,q⟩=>by cases e;exact q α _ H Ext.refl R ⟨i,rfl,Cg.refl _ _⟩
 | bool b=>cases h;exact QR Qm7 fun σ H Q ⟨α,ρ,hs,u,hs',rs,R,e,q⟩=>by cases e;exact q α _ H Ext.refl R rfl
 | none=>cases h;exact QR QkM fun σ H Q ⟨α,ρ,hs,u,hs',rs,R,e,q⟩=>by cases e;exact q α _ H Ext.refl R rfl
 | str x=>cases h;exact QR QgZ fun σ H Q ⟨α,ρ,hs,u,hs',rs,R,e,q⟩=>by cases e;exact q α _ H Ext.refl R rfl
 | _=>first | exact nomatch (show(none:Option E)=some _ from h) | simp [Qh]at h
theorem Qkf{x:Str}{p:Pos}{d:Nat}{ir:E}(g:GX T A C X)(h:Qh (m+1) C (.Name x p)=some ir):PE X (.Name x p) (TI T A X.K (ev T cf d ir)):=by
 refine Qz fun d=>?_;simp only [cE4]at h;split at h
 ·cases h
 ·rename_i hn;have n1:(x==("__debug__":Str))=false:=Zd fun z=>hn (.inl z);have n2:(x==("__classdict__":Str))=false:=Zd fun z=>hn (.inr z);split at h
  ·rename_i hv;simp only [Option.map_eq_some_iff]at h;obtain⟨i,hi,rfl⟩:=h
   refine QR (QkI (i:=i) (by rw [g.N];exact Zl hi) (QjN g hv) n1 n2) ?_
   rintro σ H Q ⟨α,ρ,hs,u,hs',rs,R,e,q⟩;simp only [ev]at e;split at e
   ·rename_i w e';cases e;obtain⟨v,h1,h2⟩:=rs.get e';exact⟨v,h1,q α v H Ext.refl R h2⟩
   ·cases e
  ·split at h
   ·rename_i hg;split at h
    ·rename_i k hk;cases h;refine QR (Qa0 (Zf g hg) (g.gco x k hk) (v:=.ref (A.k k)) rfl n1) ?_;rintro σ H Q ⟨α,ρ,hs,u,hs',rs,R,e,q⟩;cases e;exact q α _ H Ext.refl R rfl
    ·rename_i t hk;cases h;obtain⟨k,hm⟩:=g.gtx x t hk;refine QR (Qa0 (Zf g hg) hm (v:=.str ⟨t.toArray⟩) ⟨_,rfl⟩ n1) ?_;rintro σ H Q ⟨α,ρ,hs,u,hs',rs,R,e,q⟩;simp only [ev]at e;cases e;exact q α _ H Ext.refl R rfl
    ·cases h
   ·cases h
theorem QmN{a b:Expr}{o:Operator}{p:Pos}{d:Nat}{ir:E}(S:Snd T A C X cf m)(h:Qh (m+1) C (.BinOp a o b p)=some ir):PE X (.BinOp a o b p) (TI T A X.K (ev T cf d ir)):=by
 refine Qz fun d=>?_;simp only [cE5,Option.bind_eq_some_iff]at h;obtain⟨a',ha,b',hb,h⟩:=h;cases h;obtain⟨r,ho,hr⟩:=opS (X:=X) (T:=T) (A:=A) o;refine QR (Qm4 ho (S.e d a a' ha) (S.e d b b' hb)) ?_;rintro σ H Q ⟨α,ρ,hs,u,hs',rs,R,e,q⟩;simp only [ev]at e;obtain⟨u1,h1,e1,e⟩:=Qd e;obtain⟨u2,h2,e2,e⟩:=Qd e;refine TI.run rs R e1 fun α1 x H1 E1 R1 r1 rs1=>?_;refine TI.run rs1 R1 e2 fun α2 y H2 E2 R2 r2 rs2=>?_;exact hr e (r1.mono E2.pre) r2 R2 fun α3 v H3 E3 R3 r3=>q α3 v H3 ((E1.trans E2 R2.h).trans E3 R3.h) R3 r3
theorem QmK{a:Expr}{p:Pos}{d:Nat}{ir:E}(S:Snd T A C X cf m)(h:Qh (m+1) C (.UnaryOp .USub a p)=some ir):PE X (.UnaryOp .USub a p) (TI T A X.K (ev T cf d ir)):=by
 refine Qz fun d=>?_;simp only [cE6,Option.bind_eq_some_iff]at h;obtain⟨a',ha,h⟩:=h;cases h;refine QR (QkJ QgJ (S.e d a a' ha)) ?_;rintro σ H Q ⟨α,ρ,hs,u,hs',rs,R,e,q⟩;simp only [ev]at e;obtain⟨u1,h1,e1,e⟩:=Qd e;refine TI.run rs R e1 fun α1 x H1 E1 R1 r1 rs1=>?_;split at e
 ·cases e;obtain⟨i,rfl,c⟩:=r1;exact⟨i,rfl,q α1 _ H1 E1 R1 ⟨_,rfl,Qhj c⟩⟩
 ·cases e
theorem Qke{a:Expr}{p:Pos}{d:Nat}{ir:E}(tx:Txt T A X.K X.mg)(S:Snd T A C X cf m)(h:Qh (m+1) C (.UnaryOp .Not a p)=some ir):PE X (.UnaryOp .Not a p) (TI T A X.K (ev T cf d ir))/\PT X (.UnaryOp .Not a p) (TIT T A X.K (evT T cf d ir)):=by
 simp only [cE7,Option.bind_eq_some_iff]at h;obtain⟨a',ha,h⟩:=h;cases h;constructor
 ·refine Qz fun d=>?_;intro pins s σ H Q I hw;obtain⟨α,ρ,hs,u,hs',rs,R,e,q⟩:=hw;simp only [ev]at e;obtain⟨u1,h1,e1,e⟩:=Qd e;simp only [Option.map_eq_some_iff]at e;obtain⟨c,e2,e⟩:=e;cases e;refine UnaryOp_ (thn ((S.t d a a' ha).2 pins s σ H (fun v H'=>Ql0 X.K v H' c/\Q (.bl (!c)) H') I ⟨α,ρ,hs,u1,_,rs,R,e1,fun α' v H' E' R' r'=>⟨Qdd tx R' e2 r',q α' _ H' E' R' rfl⟩⟩) fun v s1 ⟨x,H1,I1,r1,q1,q2⟩=>?_)
  exact not_of (thn (QgL pins s1 σ H1 x v (fun b H'=>b=c/\H'=H1) I1 r1 ⟨c,q1,rfl,rfl⟩) fun b s2 ⟨H2,I2,eb,eH⟩=>⟨.bl (!c),H2,I2,by rw [eb];rfl,by rw [eH];exact q2⟩)
 ·cases d with
  | zero=>exact Qbr QdW
  | succ d =>
   refine Qju (QkA (S.t d a a' ha).1) ?_;rintro σ H Q ⟨α,ρ,hs,u,hs',rs,R,e,q⟩;simp only [evT]at e;obtain⟨c,h1,e1,e⟩:=Qd e;cases e;exact TIT.run rs R e1 fun α1 H1 E1 R1 rs1=>q α1 H1 E1 R1
end
end Iv
namespace Iv
open PySem PySem.Spec PyProof.Rows L2
section
variable {X:Cx}{T:Tbl}{A:Adr}{C:Ctx}{cf:Cf}{m:Nat}
theorem QbL{e:Expr}{ir:E}{d:Nat}(h:∀d',PT X e (TIT T A X.K (evT T cf (d'+1) ir))):PT X e (TIT T A X.K (evT T cf d ir)):=by
 cases d with
 | zero=>exact Qbr QdW
 | succ d=>exact h d
theorem QbK{e:Expr}{ir:E}{d:Nat}(h:∀d',PW X e (TIT T A X.K (evT T cf (d'+1) ir))):PW X e (TIT T A X.K (evT T cf d ir)):=by
 cases d with
 | zero=>exact Qjt QdW
 | succ d=>exact h d
theorem Qkk(S:Snd T A C X cf m)(d:Nat)(a:Expr)(r:List Expr)(p:Pos)(ir:E)(h:compAnd (m+1) C a r p=some ir):
  PW X (.BoolOp .And (a::r) p) (TIT T A X.K (evT T cf d ir))/\PE X (.BoolOp .And (a::r) p) (TI T A X.K (ev T cf d ir)):=by
 cases r with
 | nil=>exact⟨Qh5 (S.t d a ir h).1,Qg0 (S.t d a ir h).2⟩
 | cons b r =>
  simp only [compAnd,Option.bind_eq_some_iff]at h;obtain⟨a',ha,b',hb,h⟩:=h;cases h;constructor
  ·refine QbK fun d=>?_;refine Ql1 (Qkx (S.t d a a' ha).1 (S.an d b r p b' hb).1) ?_;rintro σ H Q ⟨α,ρ,hs,u,hs',rs,R,e,q⟩;simp only [evT]at e;obtain⟨c,h1,e1,e⟩:=Qd e;refine TIT.run rs R e1 fun α1 H1 E1 R1 rs1=>?_
   cases c with
   | true=>exact TIT.run rs1 R1 e fun α2 H2 E2 R2 rs2=>q α2 H2 (E1.trans E2 R2.h) R2
   | false=>cases e;exact q α1 H1 E1 R1
  ·refine Qz fun d=>?_;refine QR (QkP (S.t d a a' ha).2 (S.an d b r p b' hb).2) ?_;rintro σ H Q ⟨α,ρ,hs,u,hs',rs,R,e,q⟩;simp only [ev]at e;obtain⟨u1,h1,e1,e⟩:=Qd e;refine TI.run rs R e1 fun α1 x H1 E1 R1 r1 rs1=>?_;split at e
   ·cases(show x=_ from r1);exact⟨true,rfl,TI.run rs1 R1 e fun α2 v H2 E2 R2 r2 rs2=>q α2 v H2 (E1.trans E2 R2.h) R2 r2⟩
   ·cases(show x=_ from r1);cases e;exact⟨false,rfl,q α1 _ H1 E1 R1 rfl⟩
   ·cases e
theorem Qon(S:Snd T A C X cf m)(d:Nat)(a:Expr)(r:List Expr)(p:Pos)(ir:E)(h:compOr (m+1) C a r p=some ir):
  PW X (.BoolOp .Or (a::r) p) (TIT T A X.K (evT T cf d ir))/\PE X (.BoolOp .Or (a::r) p) (TI T A X.K (ev T cf d ir)):=by
 cases r with
 | nil=>exact⟨Qkw (S.t d a ir h).1,Qg0 (S.t d a ir h).2⟩
 | cons b r =>
  simp only [compOr,Option.bind_eq_some_iff]at h;obtain⟨a',ha,b',hb,h⟩:=h;cases h;constructor
  ·refine QbK fun d=>?_;refine Ql1 (Qm0 (S.t d a a' ha).1 (S.orr d b r p b' hb).1) ?_;rintro σ H Q ⟨α,ρ,hs,u,hs',rs,R,e,q⟩;simp only [evT]at e;obtain⟨c,h1,e1,e⟩:=Qd e;refine TIT.run rs R e1 fun α1 H1 E1 R1 rs1=>?_
   cases c with
   | false=>exact TIT.run rs1 R1 e fun α2 H2 E2 R2 rs2=>q α2 H2 (E1.trans E2 R2.h) R2
   | true=>cases e;exact q α1 H1 E1 R1
  ·refine Qz fun d=>?_;refine QR (Qm3 (S.t d a a' ha).2 (S.orr d b r p b' hb).2) ?_;rintro σ H Q ⟨α,ρ,hs,u,hs',rs,R,e,q⟩;simp only [ev]at e;obtain⟨u1,h1,e1,e⟩:=Qd e;refine TI.run rs R e1 fun α1 x H1 E1 R1 r1 rs1=>?_;split at e
   ·cases(show x=_ from r1);cases e;exact⟨true,rfl,q α1 _ H1 E1 R1 rfl⟩
   ·cases(show x=_ from r1);exact⟨false,rfl,TI.run rs1 R1 e fun α2 v H2 E2 R2 r2 rs2=>q α2 v H2 (E1.trans E2 R2.h) R2 r2⟩
   ·cases e
theorem Qk8{b:Expr}{b':E}{o:CmpOp}(h:Qh m C b=some b'):behindInMarks o b=false:=by
 cases b<;>first | rfl | skip
 cases m<;>first | exact nomatch (show(none:Option E)=some _ from h) | simp [Qh]at h
theorem Qki{a b:Expr}{o:CmpOp}{p:Pos}{d:Nat}{ir:E}(tx:Txt T A X.K X.mg)(tab:Qbq X.prog X.w T A X.K)(hu:X.A.units+64<cLine)(S:Snd T A C X cf m)(h:Qh (m+1) C (.Compare a [o] [b] p)=some ir):
  PE X (.Compare a [o] [b] p) (TI T A X.K (ev T cf d ir))/\PT X (.Compare a [o] [b] p) (TIT T A X.K (evT T cf d ir)):=by
 simp only [QpR,Option.bind_eq_some_iff]at h;obtain⟨a',ha,b',hb,h⟩:=h;cases h;obtain⟨r,ho,hr⟩:=Qpz (X:=X) (T:=T) (A:=A) tx tab hu o
 have key:∀(d:Nat) (σ:St) (H:Hp) (Q:VK) (α:List Addr) (ρ:Rho) (hs hs':Hs) (u:U),RS A α ρ σ->Rep T A X.K α hs H->ev T cf (d+1) (.cmp o a' b') ρ hs=some (u,hs') ->
   (∀α' c H',u=.bl c->Ext α α' H H'->Rep T A X.K α' hs' H'->Q (.bl c) H')->tOp r (TI T A X.K (ev T cf d a')) (TI T A X.K (ev T cf d b')) σ H Q:=by
  intro d σ H Q α ρ hs hs' u rs R e q;simp only [ev]at e;obtain⟨u1,h1,e1,e⟩:=Qd e;obtain⟨u2,h2,e2,e⟩:=Qd e;simp only [Option.map_eq_some_iff]at e;obtain⟨c,e3,e⟩:=e;cases e;refine TI.run rs R e1 fun α1 x H1 E1 R1 r1 rs1=>?_;refine TI.run rs1 R1 e2 fun α2 y H2 E2 R2 r2 rs2=>?_;exact hr e3 (r1.mono E2.pre) r2 R2 (q α2 c H2 rfl (E1.trans E2 R2.h) R2)
 constructor
 ·refine Qz fun d=>?_;refine QR (Qio ho (S.e d a a' ha) (S.e d b b' hb) (Qk8 hb)) ?_;rintro σ H Q ⟨α,ρ,hs,u,hs',rs,R,e,q⟩
  exact key d σ H Q α ρ hs hs' u rs R e fun α' c H' eu E' R'=>q α' _ H' E' R' (by rw [eu];rfl)
 ·refine QbL fun d=>?_
  cases d with
  | zero=>exact Qbr fun _ _ _ ⟨_,_,_,_,_,_,_,h,_⟩=>by simp [evT,ev,bd]at h
  | succ d =>
   refine Qju (Qh6 ho (S.e d a a' ha) (S.e d b b' hb) (Qk8 hb)) ?_;rintro σ H Q ⟨α,ρ,hs,u,hs',rs,R,e,q⟩;simp only [evT]at e;obtain⟨u1,h1,e1,e⟩:=Qd e;simp only [Option.map_eq_some_iff]at e;obtain⟨c,e3,e⟩:=e;cases e;refine key d σ H _ α ρ hs _ u1 rs R e1 fun α' c' H' eu E' R'=>⟨c',rfl,?_⟩;rw [eu]at e3;cases e3;exact q α' H' E' R'
theorem QhV{t a b:Expr}{p:Pos}{d:Nat}{ir:E}(S:Snd T A C X cf m)(h:Qh (m+1) C (.IfExp t a b p)=some ir):PE X (.IfExp t a b p) (TI T A X.K (ev T cf d ir)):=by
 refine Qz fun d=>?_;simp only [QpQ,Option.bind_eq_some_iff]at h;obtain⟨t',ht,a',ha,b',hb,h⟩:=h;cases h;refine QR (QfZ (S.t d t t' ht).1 (S.e d a a' ha) (S.e d b b' hb)) ?_;rintro σ H Q ⟨α,ρ,hs,u,hs',rs,R,e,q⟩;simp only [ev]at e;obtain⟨c,h1,e1,e⟩:=Qd e;refine TIT.run rs R e1 fun α1 H1 E1 R1 rs1=>?_
 cases c with
 | true=>exact TI.run rs1 R1 e fun α2 v H2 E2 R2 r2 rs2=>q α2 v H2 (E1.trans E2 R2.h) R2 r2
 | false=>exact TI.run rs1 R1 e fun α2 v H2 E2 R2 r2 rs2=>q α2 v H2 (E1.trans E2 R2.h) R2 r2
theorem JH{f:Ev}{ρ:Rho}:∀{es:List E} {hs hs':Hs} {us:List U},evs f ρ es hs=some (us,hs')->us.length=es.length
 | [],_,_,_,h=>by cases h;rfl
 | e::r,hs,hs',us,h=>by
  simp only [evs]at h;obtain⟨u,h1,e1,h⟩:=Qd h;obtain⟨ws,h2,e2,h⟩:=Qd h;cases h;simp [JH e2]
theorem Q9{C:Ctx}:∀{m:Nat} {es:List Expr} {irs:List E},compA m C es=some irs->irs.length=es.length
 | 0,_,_,h=>by simp [compA]at h
 | m+1,[],_,h=>by cases h;rfl
 | m+1,e::r,irs,h=>by
  simp only [compA,Option.bind_eq_some_iff]at h;obtain⟨e',he,r',hr,h⟩:=h;cases h;simp [Q9 hr]
theorem QgP(S:Snd T A C X cf m)(d:Nat)(es:List Expr)(irs:List E)(h:compA (m+1) C es=some irs):PA X es (TIA T A X.K (fun ρ hs=>evs (ev T cf d) ρ irs hs)):=by
 cases es with
 | nil =>
  cases h;refine Ql2 QbQ ?_;rintro σ H Q ⟨α,ρ,hs,u,hs',rs,R,e,q⟩;cases e;exact q α [] H Ext.refl R .nil
 | cons e r =>
  simp only [compA,Option.bind_eq_some_iff]at h;obtain⟨e',he,r',hr,h⟩:=h;cases h;refine Ql2 (Z9 (S.e d e e' he) (S.a d r r' hr) (Qt (QD he))) ?_;rintro σ H Q ⟨α,ρ,hs,u,hs',rs,R,e,q⟩;simp only [evs]at e;obtain⟨u1,h1,e1,e⟩:=Qd e;obtain⟨us,h2,e2,e⟩:=Qd e;cases e;refine TI.run rs R e1 fun α1 x H1 E1 R1 r1 rs1=>?_;exact TIA.run rs1 R1 e2 fun α2 xs H2 E2 R2 r2 rs2=>q α2 _ H2 (E1.trans E2 R2.h) R2 (.cons (r1.mono E2.pre) r2)
theorem Qkd(S:Snd T A C X cf m)(d:Nat)(e:Option Expr)(ir:Option E)(h:compO (m+1) C e=some ir):PO X e (TIO T A X.K (fun ρ hs=>evO (ev T cf d) ρ ir hs)):=by
 cases e with
 | none =>
  cases h;intro pins s σ H Q I hw;refine Qif pins s σ H Q I ?_;obtain⟨α,ρ,hs,u,hs',rs,R,e,q⟩:=hw;cases e;exact q α H Ext.refl R
 | some e =>
  simp only [compO,Option.bind_eq_some_iff]at h;obtain⟨e',he,h⟩:=h;cases h;intro pins s σ H Q I hw;refine QdH (S.e d e e' he) pins s σ H Q I ?_;obtain⟨α,ρ,hs,u,hs',rs,R,e,q⟩:=hw;simp only [evO]at e;obtain⟨u1,h1,e1,e⟩:=Qd e;refine TI.run rs R e1 fun α1 x H1 E1 R1 r1 rs1=>?_;split at e
  ·cases e;obtain⟨i,rfl,c⟩:=r1;cases c.exact;exact⟨_,rfl,q α1 H1 E1 R1⟩
  ·cases e
theorem TIO.run{T:Tbl}{A:Adr}{K:PySem.W.Frag}{α:List Addr}{ρ:Rho}{σ:St}{hs h1:Hs}{H:Hp}{f:Rho->Hs->Option (Option Int×Hs)}{u:Option Int}{Q:Option Int->Hp->Prop}(rs:RS A α ρ σ)(rp:Rep T A K α hs H)(h:f ρ hs=some (u,h1))
  (k:∀α1 H1,Ext α α1 H H1->Rep T A K α1 h1 H1->RS A α1 ρ σ->Q u H1):TIO T A K f σ H Q :=
 ⟨α,ρ,hs,u,h1,rs,rp,h,fun α1 H1 e r=>k α1 H1 e r (rs.mono e.pre)⟩
theorem QhS{es:List Expr}{k:Nat}{p:Pos}{d:Nat}{ir:E}(S:Snd T A C X cf m)(h:Qh (m+1) C (.Tuple es k p)=some ir):PE X (.Tuple es k p) (TI T A X.K (ev T cf d ir)):=by
 refine Qz fun d=>?_;simp only [QpP]at h;split at h
 case isFalse=>cases h
 rename_i hz;simp only [Option.bind_eq_some_iff]at h;obtain⟨es',he,h⟩:=h;cases h;refine QR (QkK (S.a d es es' he)) ?_;rintro σ H Q ⟨α,ρ,hs,u,hs',rs,R,e,q⟩;simp only [ev]at e;obtain⟨us,h1,e1,e⟩:=Qd e;cases e;refine TIA.run rs R e1 fun α1 vs H1 E1 R1 r1 rs1=>⟨?_,fun p hp=>?_⟩
 ·rw [<-r1.length,JH e1,Q9 he];exact Nat.le_trans hz big
 ·obtain⟨R',E'⟩:=R1.new (o:=.tup us) hp ⟨_,Qf,RUs.mono Qu r1⟩
  exact q _ _ _ (E1.trans E' R'.h) R' ⟨p,by rw [<-R1.h.len];exact QG,rfl⟩
theorem Qkh{es:List Expr}{p:Pos}{d:Nat}{ir:E}(S:Snd T A C X cf m)(h:Qh (m+1) C (.List es p)=some ir):PE X (.List es p) (TI T A X.K (ev T cf d ir)):=by
 refine Qz fun d=>?_;simp only [QpO]at h;split at h
 case isFalse=>cases h
 rename_i hz;simp only [Option.bind_eq_some_iff]at h;obtain⟨es',he,h⟩:=h;cases h;refine QR (QkN (S.a d es es' he)) ?_;rintro σ H Q ⟨α,ρ,hs,u,hs',rs,R,e,q⟩;simp only [ev]at e;obtain⟨us,h1,e1,e⟩:=Qd e;cases e;refine TIA.run rs R e1 fun α1 vs H1 E1 R1 r1 rs1=>⟨?_,fun p hp=>?_⟩
 ·rw [<-r1.length,JH e1,Q9 he];exact Nat.le_trans hz big
 ·obtain⟨R',E'⟩:=R1.new (o:=.lst us) hp ⟨_,Qf,RUs.mono Qu r1⟩
  exact q _ _ _ (E1.trans E' R'.h) R' ⟨p,by rw [<-R1.h.len];exact QG,rfl⟩
theorem QhU{a:Expr}{lo hi:Option Expr}{p p2:Pos}{d:Nat}{ir:E}(S:Snd T A C X cf m)(h:((Qh m C a).bind fun a'=>(compO m C lo).bind fun l=>(compO m C hi).bind fun h=>some (E.sl a' l h))=some ir):PE X (.Subscript a (.Slice lo hi none p2) p) (TI T A X.K (ev T cf d ir)):=by
 refine Qz fun d=>?_;simp only [Option.bind_eq_some_iff]at h;obtain⟨a',ha,l',hl,h',hh,h⟩:=h;cases h;refine QR (QfY (sl_list.or (sl_tup.or Qj4)) (S.e d a a' ha) (S.o d lo l' hl) (S.o d hi h' hh)) ?_;rintro σ H Q ⟨α,ρ,hs,u,hs',rs,R,e,q⟩;simp only [ev]at e;obtain⟨u1,h1,e1,e⟩:=Qd e;obtain⟨u2,h2,e2,e⟩:=Qd e;obtain⟨u3,h3,e3,e⟩:=Qd e;refine TI.run rs R e1 fun α1 x H1 E1 R1 r1 rs1=>?_;refine TIO.run rs1 R1 e2 fun α2 H2 E2 R2 rs2=>?_;refine TIO.run rs2 R2 e3 fun α3 H3 E3 R3 rs3=>?_;exact Qj6 e ((r1.mono E2.pre).mono E3.pre) R3 fun α4 z H4 E4 R4 r4=>q α4 z H4 (((E1.trans E2 R2.h).trans E3 R3.h).trans E4 R4.h) R4 r4
theorem QiS{a b:Expr}{a' b':E}{p:Pos}{d:Nat}(hu:X.A.units+1<cLine)(tx:Txt T A X.K X.mg)(ha:PE X a (TI T A X.K (ev T cf d a')))(hb:PE X b (TI T A X.K (ev T cf d b')))(hs:ZC b=true):PE X (.Subscript a b p) (TI T A X.K (ev T cf (d+1) (.ix a' b'))):=by
 refine QR (Qm5 (ix_seq.or (QiR hu)) ha hb (Jf hs)) ?_;rintro σ H Q ⟨α,ρ,hs,u,hs',rs,R,e,q⟩;simp only [ev]at e;obtain⟨u1,h1,e1,e⟩:=Qd e;obtain⟨u2,h2,e2,e⟩:=Qd e;simp only [Option.map_eq_some_iff]at e;obtain⟨x,e3,e⟩:=e;cases e;refine TI.run rs R e1 fun α1 x H1 E1 R1 r1 rs1=>?_;refine TI.run rs1 R1 e2 fun α2 y H2 E2 R2 r2 rs2=>?_;exact QhH tx e3 (r1.mono E2.pre) r2 R2 fun z rz=>q α2 z H2 (E1.trans E2 R2.h) R2 rz
end
end Iv
namespace Iv
open PySem PySem.Spec PyProof.Rows L2
section
variable {X:Cx}{T:Tbl}{A:Adr}{C:Ctx}{cf:Cf}{m k:Nat}
theorem QfA{vs:List (Key×Value)}{y:U}{x:U}{yv:V}{α:List Addr}(ky:Y6 y=true)(ry:RU A α y yv):∀{kvs:List (U×U)},Paired (fun(p:U×U) (q:Key×Value)=>QiQ p.1 q.1/\∃v,RU A [] p.2 v/\RelV v q.2) kvs vs->Zr kvs y=some x ->
  ∃key v u,yv=kV key/\valueAt vs key=some u/\RU A [] x v/\RelV v u:=by
 obtain⟨key,hy,hk⟩:∃key,yv=kV key/\QiQ y key:=by
  cases y with
  | int i m =>
   cases m with
   | zero=>obtain⟨j,rfl,c⟩:=ry;cases c.exact;exact⟨.inl i,rfl,rfl⟩
   | succ m=>cases ky
  | str z=>cases(show yv=_ from ry);exact⟨.inr ⟨z.toArray⟩,rfl,rfl⟩
  | _=>cases ky
 have inj:∀{p:U} {q:Key},QiQ p q->(p=y↔q=key):=by
  intro p q hp
  cases y with
  | int i m =>
   cases m with
   | succ m=>cases ky
   | zero =>
    cases(show key=_ from hk)
    cases p with
    | int j n =>
     cases n with
     | succ n=>exact(show False from hp).elim
     | zero=>cases(show q=_ from hp);exact⟨fun e=>(by cases e;rfl),fun e=>(by cases e;rfl)⟩
    | str z=>cases(show q=_ from hp);exact⟨fun e=>(by cases e),fun e=>(by cases e)⟩
    | _=>exact(show False from hp).elim
  | str z =>
   cases(show key=_ from hk)
   cases p with
   | int j n =>
    cases n with
    | succ n=>exact(show False from hp).elim
    | zero=>cases(show q=_ from hp);exact⟨fun e=>(by cases e),fun e=>(by cases e)⟩
   | str z' =>
    cases(show q=_ from hp)
    refine⟨fun e=>(by cases e;rfl),fun e=>?_⟩
    have e1:=Sum.inr.inj e;have e2:=congrArg (fun s:Str=>s.cps.toList) e1
    have e3:z'=z:=by simpa using e2
    rw [e3]
   | _=>exact(show False from hp).elim
  | _=>cases ky
 intro kvs r
 induction r with
 | nil=>intro h;cases h
 | @cons p q ps qs hpq t ih =>
  intro h;obtain⟨pk,pv⟩:=p;obtain⟨qk,qv⟩:=q;obtain⟨h1,v,h2,h3⟩:=hpq;simp only [Zr]at h;by_cases e:pk=y
  ·rw [if_pos e]at h;cases h;have e2:qk=key:=(inj h1).mp e
   exact⟨key,v,qv,hy,by simp [valueAt,e2],h2,h3⟩
  ·rw [if_neg e]at h;obtain⟨key',v',u',g1,g2,g3,g4⟩:=ih h
   have e1:key'=key:=by
    rw [hy]at g1;cases key<;>cases key'<;>simp_all [kV]
   subst e1;have e2:¬qk=key':=fun z=>e ((inj h1).mpr z);refine⟨key',v',u',g1,?_,g3,g4⟩;simp only [valueAt,List.find?_cons];rw [decide_eq_false e2];exact g2
theorem QmI{x:Str}{b:Expr}{p pos:Pos}{i d:Nat}{b':E}(g:GX T A C X)(hb:PE X b (TI T A X.K (ev T cf d b')))(hs:ZC b=true)(hg:Y8 C x=true)(hn:x≠"__debug__") (hx:C.gl.lookup x=some (.con i)):
  PE X (.Subscript (.Name x p) b pos) (TI T A X.K (ev T cf (d+1) (.tab i b'))):=by
 intro pins s σ H Q I h;obtain⟨α,ρ,hs',u,hs2,rs,R,e,q⟩:=h;simp only [ev]at e;obtain⟨w,h1,e1,e⟩:=Qd e;simp only [Option.map_eq_some_iff]at e;obtain⟨z,e2,e⟩:=e;cases e;unfold Qoh at e2;split at e2
 case h_2=>cases e2
 rename_i kvs ec;split at e2
 case isFalse=>cases e2
 rename_i ky;obtain⟨vs,_,hd,hp⟩:=g.tab i kvs ec;refine QhJ PySem.F.slot_dict_getitem.lookup (Jf hs) (JC I (Zf g hg) (g.gco x i hx) ?_ (Zd hn));refine thn (hb pins s σ H (fun y H1=>∃α1,Ext α α1 H H1/\Rep T A X.K α1 hs2 H1/\RU A α1 w y) I (TI.run rs R e1 fun α1 y H1 E1 R1 r1 rs1=>⟨α1,E1,R1,r1⟩)) fun iv s1 ⟨y,H1,I1,ry,α1,E1,R1,r1⟩=>?_;obtain⟨key,v,u',ey,ev',rv,rl⟩:=QfA ky r1 hp e2;have dd:=hd s1.heap I1.kIn;subst ey
 exact⟨dd.typeIs,wpAny_getItem_of (YQ ry) dd.mapOf ev' ⟨v,H1,I1.tok _,rl,q α1 v H1 E1 R1 (RU.mono (fun n a e=>by simp at e) rv)⟩⟩
theorem QgN{α:List Addr}{us:List U}{vs:List V}{hs hs':Hs}{H:Hp}{u:U}{f:Nat}{Q:VK}{E:XK}(F:Fc X T A cf k)(r:RUs A α us vs)(R:Rep T A X.K α hs H)(e:cf f us hs=some (u,hs'))
  (q:∀α' v H',Ext α α' H H'->Rep T A X.K α' hs' H'->RU A α' u v->Q v H'):spC T A X.K cf f vs H Q E:=⟨α,us,hs,u,hs',r,R,e,F.some f us hs _ e,q⟩
theorem Qkj{x:Str}{args:List Expr}{p pos:Pos}{i d:Nat}{es:List E}(g:GX T A C X)(F:Fc X T A cf k)(hr:Room k X.A)(S:Snd T A C X cf m)(hg:Y8 C x=true)(hn:x≠"__debug__") (hx:C.gl.lookup x=some (.fn i)) (ha:compA m C args=some es):
  PE X (.Call (.Name x p) args [] pos) (TI T A X.K (ev T cf (d+1) (.call i es))):=by
 cases hF:T.fns[i]? with
 | none =>
  refine Y0 ?_;rintro σ H Q ⟨α,ρ,hs,u,hs',rs,R,e,q⟩;simp only [ev]at e;obtain⟨us,h1,e1,e⟩:=Qd e;obtain⟨F',h,_⟩:=F.some _ _ _ _ e;rw [hF]at h;cases h
 | some Fn =>
  obtain⟨fd,G,b,kp⟩:=F.ok i Fn hF;have pa:=S.a d args es ha
  have key:∀σ H Q,TI T A X.K (ev T cf (d+1) (.call i es)) σ H Q->QfD (spC T A X.K cf i) [] E0 (TIA T A X.K (fun ρ hs=>evs (ev T cf d) ρ es hs)) σ H Q:=by
   rintro σ H Q ⟨α,ρ,hs,u,hs',rs,R,e,q⟩;simp only [ev]at e;obtain⟨us,h1,e1,e⟩:=Qd e;refine TIA.run rs R e1 fun α1 vs H1 E1 R1 r1 rs1=>?_;rw [List.append_nil];exact QgN F r1 R1 e fun α2 v H2 E2 R2 r2=>q α2 v H2 (E1.trans E2 R2.h) R2 r2
  cases args with
  | nil =>
   have ee:es=[]:=by
    have:=Q9 ha;simpa using this
   subst ee;refine QR (QbO G hr (Zf g hg) (g.gfn x i hx) kp b .nil Qf2 (Zd hn)) fun σ H Q h=>?_;have h2:=key σ H Q h;obtain⟨α,ρ,hs,us,hs',rs,R,e,q⟩:=h2;cases e;exact q α [] H Ext.refl R .nil
  | cons a r=>exact QR (QdP G hr (Zf g hg) (g.gfn x i hx) kp b .nil Qf2 pa (Zd hn) (Qt (QE ha a (List.mem_cons_self ..))) (Zy fun z hz=>QE ha z (List.mem_cons_of_mem _ hz))) key
theorem QeA{f:Ev}{ρ:Rho}:∀{a b:List E} {us:List U} {hs h2:Hs},evs f ρ (a++b) hs=some (us,h2)->∃ua ub h1,evs f ρ a hs=some (ua,h1)/\evs f ρ b h1=some (ub,h2)/\us=ua++ub
 | [],b,us,hs,h2,h=>⟨[],us,hs,rfl,h,rfl⟩
 | e::a,b,us,hs,h2,h=>by
  have h:bd (f e ρ hs) (fun u h1=>bd (evs f ρ (a++b) h1) fun us h2=>some (u::us,h2))=some (us,h2):=h;obtain⟨u,h1,e1,h⟩:=Qd h;obtain⟨ws,h3,e2,h⟩:=Qd h;cases h;obtain⟨ua,ub,h4,e3,e4,rfl⟩:=QeA e2;refine⟨u::ua,ub,h4,?_,e4,rfl⟩;show bd (f e ρ hs) (fun u h1=>bd (evs f ρ a h1) fun us h2=>some (u::us,h2))=_;rw [e1];show bd (evs f ρ a h1) _=_;rw [e3];rfl
theorem Qez{d:Nat}{ρ:Rho}:∀{cs us:List U} {hs h2:Hs},evs (ev T cf d) ρ (cs.map .c) hs=some (us,h2)->us=cs/\h2=hs
 | [],us,hs,h2,h=>by cases h;exact⟨rfl,rfl⟩
 | c::cs,us,hs,h2,h=>by
  have h:bd (ev T cf d (.c c) ρ hs) (fun u h1=>bd (evs (ev T cf d) ρ (cs.map .c) h1) fun us h2=>some (u::us,h2))=some (us,h2):=h;obtain⟨u,h1,e1,h⟩:=Qd h;obtain⟨ws,h3,e2,h⟩:=Qd h;cases h
  cases d with
  | zero=>simp [ev]at e1
  | succ d =>
   simp only [ev]at e1;cases e1;obtain⟨rfl,rfl⟩:=Qez e2;exact⟨rfl,rfl⟩
theorem RUs.app{α:List Addr}{us ws:List U}{vs zs:List V}(a:RUs A α us vs)(b:RUs A α ws zs):RUs A α (us++ws) (vs++zs):=a.append b
theorem Vals.dropN{vs:List V}{us:List Value}(r:Vals vs us):∀n,Vals (vs.drop n) (us.drop n):=fun n=>by
 induction r generalizing n with
 | nil=>simp;exact .nil
 | cons a t ih =>
  cases n with
  | zero=>exact .cons a t
  | succ n=>exact ih n
theorem QhX{x:Str}{args:List Expr}{p pos:Pos}{i d:Nat}{es:List E}{ir:E}(g:GX T A C X)(F:Fc X T A cf k)(hr:Room k X.A)(S:Snd T A C X cf m)(hg:Y8 C x=true)(hn:x≠"__debug__") (hx:C.gl.lookup x=some (.fn i)) (ha:compA m C args=some es) (h:Ql7 C i es=some ir):
  PE X (.Call (.Name x p) args [] pos) (TI T A X.K (ev T cf (d+1) ir)):=by
 unfold Ql7 at h;rw [g.CT]at h;split at h
 ·cases h;exact Qkj g F hr S hg hn hx ha
 rename_i D hD;split at h
 case isFalse=>cases h
 cases h;generalize D.ds.length-(D.np-es.length)=n
 cases hF:T.fns[i]? with
 | none =>
  refine Y0 ?_;rintro σ H Q ⟨α,ρ,hs,u,hs',rs,R,e,q⟩;simp only [ev]at e;obtain⟨us,h1,e1,e⟩:=Qd e;obtain⟨F',h,_⟩:=F.some _ _ _ _ e;rw [hF]at h;cases h
 | some Fn =>
  obtain⟨fd,G,kp,ds,dvs,rd,vd,hb,_⟩:=F.df i D Fn hD hF;have pa:=S.a d args es ha
  have key:∀σ H Q,TI T A X.K (ev T cf (d+1) (.call i (es++(D.ds.drop n).map .c))) σ H Q->QfD (spC T A X.K cf i) (dvs.drop n) E0 (TIA T A X.K (fun ρ hs=>evs (ev T cf d) ρ es hs)) σ H Q:=by
   rintro σ H Q ⟨α,ρ,hs,u,hs',rs,R,e,q⟩;simp only [ev]at e;obtain⟨us,h1,e1,e⟩:=Qd e;obtain⟨ua,ub,h2,e2,e3,rfl⟩:=QeA e1;obtain⟨rfl,rfl⟩:=Qez e3;refine TIA.run rs R e2 fun α1 vs H1 E1 R1 r1 rs1=>?_
   exact QgN F (r1.app (RUs.mono (fun n a e=>by simp at e) (RUs.drop n rd))) R1 e fun α2 v H2 E2 R2 r2=>q α2 v H2 (E1.trans E2 R2.h) R2 r2
  cases args with
  | nil =>
   have ee:es=[]:=by
    have:=Q9 ha;simpa using this
   subst ee;refine QR (QbO G hr (Zf g hg) (g.gfn x i hx) kp (hb n) (Vals.dropN vd n) Qf2 (Zd hn)) fun σ H Q h=>?_;have h2:=key σ H Q h;obtain⟨α,ρ,hs,us,hs',rs,R,e,q⟩:=h2;cases e;exact q α [] H Ext.refl R .nil
  | cons a r=>exact QR (QdP G hr (Zf g hg) (g.gfn x i hx) kp (hb n) (Vals.dropN vd n) Qf2 pa (Zd hn) (Qt (QE ha a (List.mem_cons_self ..))) (Zy fun z hz=>QE ha z (List.mem_cons_of_mem _ hz))) key
end
end Iv
namespace Iv
open PySem PySem.Spec PyProof.Rows L2
section
variable {X:Cx}{T:Tbl}{A:Adr}{C:Ctx}{cf:Cf}{m k:Nat}
theorem QbF{env:Env}{pos:Pos}:∀{es:List Expr},QaK es->(backTo pos (starEach es env)).all (fun x=>!x.1)=true
 | [],_=>rfl
 | e::r,h=>by
  rw [Qt (h e (List.mem_cons_self ..))];have ih:=QbF (env:=env) (pos:=pos) (es:=r) fun x hx=>h x (List.mem_cons_of_mem _ hx);unfold backTo at ih ⊢;rw [List.map_cons,List.all_cons,ih];rfl
theorem Qlu{env:Env}{pos:Pos}{e:Expr}{es:List Expr}(hn:QaK (e::es))(hl:(e::es).length<29):((backTo pos (starEach (e::es) env)).all (fun x=>!x.1)&&(backToKw pos (keywordEach [] env)).all (fun x=>x.1.isSome)
   && decide ((e::es).length+([]:List Keyword).length+(if([]:List Keyword).isEmpty then 0 else 1) < 30))=true:=by
 rw [QbF hn]
 have:(e::es).length+([]:List Keyword).length+(if([]:List Keyword).isEmpty then 0 else 1) < 30:=by
  simp only [List.length_nil,List.isEmpty_nil,if_true];omega
 rw [decide_eq_true this];rfl
theorem YX{o:Expr}{x:Str}{args:List Expr}{p q:Pos}{d:Nat}{o':E}{es:List E}{b:Bm}{id ty:String}(S:Snd T A C X cf m)(B:BmS X T A b id)(pa:PlainAttrs ty)(slot:Slot ty x id)(hty:typeOf (.builtin id)=pure (.type "method_descriptor"))
  (ty:∀{u:U} {hs:Hs} {α:List Addr} {v:V} {H:Hp},QaV b u hs=true->RU A α u v->Rep T A X.K α hs H->L2.tyV X.K ty v H) (h1:YM o=true) (h2:(p.endLine==q.line)=true) (h3:args.length<29)
  (ho:Qh m C o=some o') (ha:compA m C args=some es):PE X (.Call (.Attribute o x p) args [] q) (TI T A X.K (ev T cf (d+1) (.bm b o' es))):=by
 obtain⟨r,hm,hB⟩:=B;have hns:=QE ha
 cases args with
 | nil =>
  have ee:es=[]:=by
   have:=Q9 ha;simpa using this
  subst ee;refine QR (QkO pa slot hty hm (S.e d o o' ho) (Ye h1) h2) ?_;rintro σ H Q ⟨α,ρ,hs,u,hs',rs,R,e,q⟩;simp only [ev,evs]at e;obtain⟨u1,h1',e1,e⟩:=Qd e;split at e
  case isFalse=>cases e
  rename_i il;obtain⟨us,h2',e2,e⟩:=Qd e;cases e2;exact TI.run rs R e1 fun α1 v H1 E1 R1 r1 rs1=>⟨ty il r1 R1,hB e r1 .nil R1 fun α2 v2 H2 E2 R2 r2=>q α2 v2 H2 (E1.trans E2 R2.h) R2 r2⟩
 | cons a t =>
  refine QR (Qm6 pa slot hty hm (S.e d o o' ho) (S.a d (a::t) es ha) (Ye h1) (Qlu hns h3) h2 (Qt (hns a (List.mem_cons_self ..))) (Zy fun z hz=>hns z (List.mem_cons_of_mem _ hz))) ?_;rintro σ H Q ⟨α,ρ,hs,u,hs',rs,R,e,q⟩;simp only [ev]at e;obtain⟨u1,h1',e1,e⟩:=Qd e;split at e
  case isFalse=>cases e
  rename_i il;obtain⟨us,h2',e2,e⟩:=Qd e;exact TI.run rs R e1 fun α1 v H1 E1 R1 r1 rs1=>⟨ty il r1 R1,TIA.run rs1 R1 e2 fun α2 vs H2 E2 R2 r2 rs2=>hB e (r1.mono E2.pre) r2 R2 fun α3 v2 H3 E3 R3 r3=>q α3 v2 H3 ((E1.trans E2 R2.h).trans E3 R3.h) R3 r3⟩
noncomputable def kdB:Bm->String
 | .setdef=>"dict"
 | .get=>"dict"
 | .update=>"dict"
 | .join=>"str"
 | .split=>"str"
 | .find=>"str"
 | .index=>"str"
 | _=>"list"
theorem Qab{b:Bm}{u:U}{hs:Hs}{α:List Addr}{v:V}{H:Hp}(e:QaV b u hs=true)(r:RU A α u v)(R:Rep T A X.K α hs H):L2.tyV X.K (kdB b) v H:=by
 cases u with
 | ref n =>
  obtain⟨a,ha,rfl⟩:=r;simp only [QaV]at e;split at e
  ·rename_i xs eo;obtain⟨vs,q,_⟩:=R.h.ob n a _ ha eo
   have:kdB b="list":=by cases b<;>first | rfl | cases e
   rw [this];exact .inl ⟨rfl,vs,SqL.of q⟩
  ·rename_i kvs eo;obtain⟨kv,q,_⟩:=R.h.ob n a _ ha eo
   have:kdB b="dict":=by cases b<;>first | rfl | cases e
   rw [this];exact .inr (.inr (.inl ⟨rfl,.inl ⟨kv,q⟩⟩))
  ·cases e
 | str x =>
  cases(show v=_ from r)
  have:kdB b="str":=by cases b<;>first | rfl | cases e
  exact this
 | _=>cases e
theorem Qpb{o:Expr}{x:Str}{args:List Expr}{p q:Pos}{d:Nat}{o':E}{es:List E}{b:Bm}(hu:X.A.units+1<cLine)(tx:Txt T A X.K X.mg)(S:Snd T A C X cf m)(hb:Qmf x=some b)(h1:YM o=true)(h2:(p.endLine==q.line)=true)(h3:args.length<29)
  (ho:Qh m C o=some o') (ha:compA m C args=some es):PE X (.Call (.Attribute o x p) args [] q) (TI T A X.K (ev T cf (d+1) (.bm b o' es))):=by
 unfold Qmf at hb;split at hb
 ·rename_i e;subst e;cases hb;exact YX S QcU PySem.F.plainAttrs_list PySem.F.slot_list_append PySem.F.type_list_append (fun e r R=>Qab e r R) h1 h2 h3 ho ha
 split at hb
 ·rename_i e;subst e;cases hb;exact YX S QcS PySem.F.plainAttrs_dict PySem.F.slot_dict_setdefault PySem.F.type_dict_setdefault (fun e r R=>Qab e r R) h1 h2 h3 ho ha
 split at hb
 ·rename_i e;subst e;cases hb;exact YX S QcT PySem.F.plainAttrs_list PySem.F.slot_list_extend PySem.F.type_list_extend (fun e r R=>Qab e r R) h1 h2 h3 ho ha
 unfold QlM at hb;split at hb
 ·rename_i e;subst e;cases hb;exact YX S (Qjj hu) PySem.F.plainAttrs_dict PySem.F.slot_dict_get PySem.F.type_dict_get (fun e r R=>Qab e r R) h1 h2 h3 ho ha
 split at hb
 ·rename_i e;subst e;cases hb;exact YX S QcR PySem.F.plainAttrs_dict PySem.F.slot_dict_update PySem.F.type_dict_update (fun e r R=>Qab e r R) h1 h2 h3 ho ha
 ·cases hb
theorem YY{args:List Expr}{d:Nat}{es:List E}{b:Bi}{fv:Value}{r:List V->Hp->VK->Prop}{e0:Expr}(hB:∀{α:List Addr} {us:List U} {u':U} {hs hs':Hs} {vs:List V} {H:Hp} {Q:VK},biU T b us hs=some (u',hs')->RUs A α us vs->Rep T A X.K α hs H ->
   (∀α' v' H',Ext α α' H H'->Rep T A X.K α' hs' H'->RU A α' u' v'->Q v' H')->r vs H Q)
  (h:PE X e0 (tCB r (TIA T A X.K (fun ρ hs=>evs (ev T cf d) ρ es hs)))):PE X e0 (TI T A X.K (ev T cf (d+1) (.bi b es))):=by
 refine QR h ?_;rintro σ H Q ⟨α,ρ,hs,u,hs',rs,R,e,q⟩;simp only [ev]at e;obtain⟨us,h1,e1,e⟩:=Qd e;exact TIA.run rs R e1 fun α1 vs H1 E1 R1 r1 rs1=>hB e r1 R1 fun α2 v2 H2 E2 R2 r2=>q α2 v2 H2 (E1.trans E2 R2.h) R2 r2
theorem Qjk{b:Bi}{hs:Hs}:biU T b [] hs=none:=by cases b<;>rfl
theorem Qpc{x:Str}{args:List Expr}{p pos:Pos}{d:Nat}{es:List E}{b:Bi}(g:GX T A C X)(hu:X.A.units+2<cLine)(S:Snd T A C X cf m)(hg:Y8 C x=true)(hn:x≠"__debug__") (hn2:x≠"__name__") (hx:Qmg C x=some b) (ha:compA m C args=some es):
  PE X (.Call (.Name x p) args [] pos) (TI T A X.K (ev T cf (d+1) (.bi b es))):=by
 have hns:=QE ha
 cases args with
 | nil =>
  refine Y0 ?_;rintro σ H Q ⟨α,ρ,hs,u,hs',rs,R,e,q⟩
  have ee:es=[]:=by
   have:=Q9 ha;simpa using this
  subst ee;simp [ev,evs,bd,Qjk]at e
 | cons a t =>
  unfold Qmg at hx;split at hx
  ·cases hx
  split at hx
  ·cases hx
  rename_i hl;have hm:X.mg x=none:=g.blt x hl;have pa:=S.a d (a::t) es ha;have st:=Qt (env:=X.env) (es:=t) (hns a (List.mem_cons_self ..));have sa:=Zy (env:=X.env) (pos:=pos) (es:=t) fun z hz=>hns z (List.mem_cons_of_mem _ hz);split at hx
  ·rename_i e;subst e;cases hx;obtain⟨r,hc,hB⟩:=Qjm (X:=X) (A:=A) g.txt
   exact YY (fv:=.builtin "len") (args:=[]) hB (Yx hc (Zf g hg) hm (by decide +kernel) pa hn2 (Zd hn) st sa)
  split at hx
  ·rename_i e;subst e;cases hx;obtain⟨r,hc,hB⟩:=Qe9 (X:=X) (A:=A) (T:=T)
   exact YY (fv:=.none) (args:=[]) hB (Qaf hc (Zf g hg) hm (by decide +kernel) pa hn2 (Zd hn) st sa)
  split at hx
  ·rename_i e;subst e;cases hx;obtain⟨r,hc,hB⟩:=Qjl (X:=X) (A:=A) g.txt g.calm
   exact YY (fv:=.builtin "max") (args:=[]) hB (Yx hc (Zf g hg) hm (by decide +kernel) pa hn2 (Zd hn) st sa)
  unfold QlN at hx;split at hx
  ·rename_i e;subst e;cases hx;obtain⟨r,hc,hB⟩:=QcV (X:=X) (A:=A) g.txt
   exact YY (fv:=.builtin "sorted") (args:=[]) hB (Yx hc (Zf g hg) hm (by decide +kernel) pa hn2 (Zd hn) st sa)
  split at hx
  ·rename_i e;subst e;cases hx;obtain⟨r,hc,hB⟩:=Qgz (X:=X) (A:=A) (T:=T) hu g.calm
   exact YY (fv:=.none) (args:=[]) hB (Qaf hc (Zf g hg) hm (by decide +kernel) pa hn2 (Zd hn) st sa)
  ·cases hx
theorem Qpa {t : Str} {ty : Ty} {p : Pos} (g : GX T A C X) (hg : Y8 C t = true) (hn : t ≠ "__debug__") (hn2 : t ≠ "__name__") (h : QjR C t = some ty) : ∃ v, PE X (.Name t p) (tC v) /\ QnT v = some (tyW A ty) := by
 unfold QjR at h;split at h
 ·rename_i i e;cases h;exact⟨.ref (A.c i),Qa0 (Zf g hg) (g.gcl t i e) rfl (Zd hn),rfl⟩
 ·cases h
 ·split at h
  ·cases h
  rename_i e;have hm:X.mg t=none:=g.blt t e;have fin:∀n:String,bootBuiltins t=some (.type n)->PE X (.Name t p) (tC (.ty n)):=fun n hb=>Qip (Zf g hg) hm hb rfl hn2 (Zd hn);split at h
  ·rename_i e;subst e;cases h;exact⟨_,fin "int" (by decide +kernel),rfl⟩
  split at h
  ·rename_i e;subst e;cases h;exact⟨_,fin "str" (by decide +kernel),rfl⟩
  split at h
  ·rename_i e;subst e;cases h;exact⟨_,fin "bool" (by decide +kernel),rfl⟩
  split at h
  ·rename_i e;subst e;cases h;exact⟨_,fin "list" (by decide +kernel),rfl⟩
  split at h
  ·rename_i e;subst e;cases h;exact⟨_,fin "tuple" (by decide +kernel),rfl⟩
  split at h
  ·rename_i e;subst e;cases h;exact⟨_,fin "dict" (by decide +kernel),rfl⟩
  split at h
  ·rename_i e;subst e;cases h;exact⟨_,fin "ValueError" (by decide +kernel),rfl⟩
  ·cases h
theorem QmL{a:Expr}{t:Str}{ty:Ty}{a':E}{p p1 pos:Pos}{d:Nat}(g:GX T A C X)(S:Snd T A C X cf m)(hi:Y8 C "isinstance"=true) (hl:¬C.bl.contains ("isinstance":Str)=false) (hg:Y8 C t=true) (hn:t≠"__debug__") (hn2:t≠"__name__") (h:QjR C t=some ty) (ha:Qh m C a=some a'):
  PE X (.Call (.Name "isinstance" p) [a,.Name t p1] [] pos) (TI T A X.K (ev T cf (d+1) (.isi a' ty))):=by
 obtain⟨v,hv,hc⟩:=Qpa (p:=p1) g hg hn hn2 h;have s1:starEach [a,.Name t p1] X.env=(false,eval a X.env)::starEach [.Name t p1] X.env:=Qt (QD ha)
 refine QR (Yx Qgx (Zf g hi) (g.blt _ hl) (by decide +kernel) (Z9 (S.e d a a' ha) (Z9 hv QbQ) s1) (by decide) (by decide) s1 rfl) ?_
 rintro σ H Q ⟨α,ρ,hs,u,hs',rs,R,e,q⟩;simp only [ev]at e;obtain⟨u1,h1,e1,e⟩:=Qd e;simp only [Option.map_eq_some_iff]at e;obtain⟨b,e2,e⟩:=e;cases e;refine TI.run rs R e1 fun α1 x H1 E1 R1 r1 rs1=>?_;obtain⟨tv,h1,h2⟩:=Qlq g.txt e2 r1 R1;exact⟨x,v,_,tv,b,rfl,hc,h1,h2,q α1 _ H1 E1 R1 rfl⟩
end
end Iv
namespace L2
open PySem PySem.Spec PyProof.Rows
open Sem (wp)
section
variable {prog:Program}{w:World}{A:Around}{E:Value->Shared->Prop}{s:Shared}
end
section
variable {prog:Program}{w:World}{A:Around}{E:Value->Shared->Prop}{s:Shared}{z TI TO i1 i2 l1 l2:Addr}{P1 P2:Nat->Heap->Prop}{L1 L2:Array Value->Heap->Prop}
end
end L2
namespace L2
open PySem PySem.Spec PyProof.Rows
section
variable {X:Cx}{pins:List (Addr×Obj)}{σ:St}{H:Hp}{s:Shared}{h':Heap}
theorem Inv.turnedLay{t':Nat}{ch:List Addr}{p:Addr}{vs:List V}{its:List Value}(I:Inv X pins σ H s)(hf:∀b∈ch,Qcl X pins H b)(k:∀b o,b∉ch->s.heap.get? b=some o->h'.get? b=some o)
  (there:∀b o,b∈ch->s.heap.get? b=some o->∃o',h'.get? b=some o')
  (hp:s.heap.objs.size<=p) (hv:Vals vs its) (ht:IsTup h' p its.toArray) (hz:vs.length<=sizeLine):Inv X pins σ (upd H p (.tup vs)) { s with heap:=h',toks:=t' }:=by
 have hn:H p=none:=I.hok.fresh hp
 have ne:∀b o,s.heap.get? b=some o->b≠p:=fun b o e z=>by
  have:=Heap.lt_size e;rw [z]at this;exact absurd (Nat.lt_of_lt_of_le this hp) (Nat.lt_irrefl _)
 have nch:∀b u,H b=some u->b∉ch:=fun b u e z=>by rw [(hf b z).1]at e;cases e
 have up:∀b u,H b=some u->upd H p (.tup vs) b=some u:=fun b u e=>by rw [Qe (QX e hn)];exact e
 refine I.step (g':=s.gens) (d':=s.drawn) (ch:=ch) (fun b hb=>?_) (fun b o _ _ hc e _=>k b o hc e) (fun b o _ _ hc e _=>⟨o.slots,k b o hc e⟩) (fun b o _ e n=>by rw [Qe (ne b o e)];exact n)
  (fun b o hc e=>⟨o,k b o hc e⟩) (fun b xs e=>up b _ e) (fun b o u e=>up b _ e) (fun b ps e=>⟨#[],by rw [up b _ e];simp⟩) (fun m hm=>?_) (fun b u e=>?_) I.bare
 ·obtain⟨_,f1,_,f3,f4,f5⟩:=hf b hb;exact⟨f3,f1,f4,f5⟩
 ·obtain⟨o,es,ep,ho,r⟩:=hm;refine⟨o,es,ep,k _ o (fun z=>(hf _ z).2.1 rfl) ho,r⟩
 ·by_cases hb:b=p
  ·subst hb;rw [Qf]at e;cases e;exact⟨hz,its,hv,ht⟩
  ·rw [Qe hb]at e;refine(I.hok b u e).stay (fun c v hc q=>k c v ?_ q) (fun c q=>up c _ q) fun c xs q=>up c _ q
   rcases hc with z | z
   ·rw [z];exact nch b u e
   ·exact nch c _ z
theorem Inv.turnedL{t':Nat}{ch:List Addr}(I:Inv X pins σ H s)(hf:∀b∈ch,Qcl X pins H b)(k:∀b o,b∉ch->s.heap.get? b=some o->h'.get? b=some o):Inv X pins σ H { s with heap:=h',toks:=t' }:=by
 have nch:∀b u,H b=some u->b∉ch:=fun b u e z=>by rw [(hf b z).1]at e;cases e
 refine I.step (g':=s.gens) (d':=s.drawn) (ch:=ch) (fun b hb=>?_) (fun b o _ _ hc e _=>k b o hc e) (fun b o _ _ hc e _=>⟨o.slots,k b o hc e⟩) (fun b o _ e n=>n)
  (fun b o hc e=>⟨o,k b o hc e⟩) (fun b xs e=>e) (fun b o u e=>e) (fun b ps e=>⟨#[],by rw [e];simp⟩) (fun m hm=>?_) (fun b u e=>?_) I.bare
 ·obtain⟨_,f1,_,f3,f4,f5⟩:=hf b hb;exact⟨f3,f1,f4,f5⟩
 ·obtain⟨o,es,ep,ho,r⟩:=hm;exact⟨o,es,ep,k _ o (fun z=>(hf _ z).2.1 rfl) ho,r⟩
 ·refine(I.hok b u e).stay (fun c v hc q=>k c v ?_ q) (fun c q=>q) fun c xs q=>q
  rcases hc with z | z
  ·rw [z];exact nch b u e
  ·exact nch c _ z
end
noncomputable abbrev Qlp(b:Bool)(l:Addr):Obj:={ cls:=.type (if b then "list_iterator" else "tuple_iterator"),data:=.fields #[.ref l,.int 0 0] }
noncomputable abbrev zH1(b:Bool)(h:Heap)(l1:Addr):Heap:=h.push (Qlp b l1)
noncomputable abbrev zH2(b b':Bool)(h:Heap)(l1 l2:Addr):Heap:=(zH1 b h l1).push (Qlp b' l2)
noncomputable abbrev zH3(b b':Bool)(h:Heap)(l1 l2:Addr):Heap:=(zH2 b b' h l1 l2).push { cls:=.type "tuple",data:=.seq #[.ref h.objs.size,.ref (zH1 b h l1).objs.size] }
noncomputable abbrev zH4(b b':Bool)(h:Heap)(l1 l2:Addr):Heap:=(zH3 b b' h l1 l2).push { cls:=.type "tuple",data:=.seq #[.none,.none] }
noncomputable abbrev zH5(b b':Bool)(h:Heap)(l1 l2:Addr):Heap:=(zH4 b b' h l1 l2).push { cls:=.type "zip",data:=.fields #[.none,.bool false,.bool false,.ref (zH2 b b' h l1 l2).objs.size,.ref (zH3 b b' h l1 l2).objs.size] }
section
variable {prog:Program}{w:World}{A:Around}{E:Value->Shared->Prop}{s:Shared}
end
section
variable {X:Cx}
end
end L2
namespace L2
open PySem PySem.Spec PyProof.Rows
noncomputable def Ite(K:PySem.W.Frag)(a:Addr):It :=
 ⟨fun i H=>∃xs x,SqL K H a xs/\xs[i]?=some x,
   fun i H x H'=>∃p v,H p=none/\x=.ref p/\H'=upd H p (.tup [.int i,v])/\∀xs,SqL K H a xs->xs[i]?=some v,
   fun i H=>∃xs,SqL K H a xs/\xs.length<=i⟩
theorem Qdb{P:Program}{w:World}{K:PySem.W.Frag}{elts:List Expr}{kt:Nat}{pt:Pos}(a e it:Addr)(hne:e≠it):
  Turn P w K (.Tuple elts kt pt) (Ite K a) [e,it] e (fun i h=>(∃old,IsEnum h e it (i:Nat) old)/\h.IsListIter it a i) where
 mem:=by simp
 obj:=fun i h st c hc=>by
  obtain⟨⟨old,he⟩,o,hi,_,hd⟩:=st
  have hc':c=e\/c=it:=by simpa using hc
  rcases hc' with rfl | rfl
  ·exact⟨_,he,fun v q=>nomatch q⟩
  ·exact⟨o,hi,fun v q=>by rw [hd]at q;cases q⟩
 keep:=fun i h h' st k=>by
  obtain⟨⟨old,he⟩,hi⟩:=st
  exact⟨⟨old,k e (by simp) _ he⟩,hi.at fun o q=>k it (by simp) o q⟩
 item:=by
  intro X hP hw hK hc i pins s σ H E I hf st hg;subst hP hw hK;obtain⟨⟨old,he⟩,hi⟩:=st;obtain⟨xs,x,q1,ex⟩:=hg;obtain⟨its,r1,pl,_⟩:=I.list q1;obtain⟨u,hu,ru⟩:=r1.get ex;have lte:e<s.heap.objs.size:=Heap.lt_size he
  have lti:it<s.heap.objs.size:=by obtain⟨o,q,_⟩:=hi;exact Heap.lt_size q
  refine wpAny_pyNext_enum_item he hi pl.isList (x:=u) (by simpa using hu) hne fun h' b1 b2 b3 b4 b5=>?_
  refine⟨_,rfl,?_⟩;refine wpAny_letOwnedTupleGo_enum (s:={ s with heap:=h',toks:=s.toks+1 }) b1 fun h2 c1 c2=>?_;have up:∀c o,c≠e->h'.get? c=some o->h2.get? c=some o:=fun c o hc q=>c2.extBut _ _ hc q
  have kp:∀c o,c∉[e,it]->s.heap.get? c=some o->h2.get? c=some o:=fun c o hc q=>by
   have hc':¬(c=e\/c=it):=by simpa using hc
   exact up c o (fun z=>hc' (.inl z)) (b5 c o (fun z=>hc' (.inl z)) (fun z=>hc' (.inr z)) q)
  have hT:h2.get? s.heap.objs.size=some { cls:=.type "tuple",data:=.seq #[.int i s.toks,u] }:=up _ _ (Nat.ne_of_gt lte) b3;have hi2:h2.IsListIter it a (i+1):=b2.at fun o q=>up it o hne.symm q
  have I2:Inv X pins σ (upd H s.heap.objs.size (.tup [.int i,x])) { s with heap:=h2,toks:=s.toks+1 }:=I.turnedLay (t':=s.toks+1) (its:=[.int i s.toks,u]) hf kp (fun c o hc q=>by
   have hc':c=e\/c=it:=by simpa using hc
   rcases hc' with rfl | rfl
   ·exact⟨_,c1⟩
   ·obtain⟨o2,q2,_⟩:=hi2;exact⟨o2,q2⟩) (Nat.le_refl _) (.cons ⟨_,rfl⟩ (.cons ru .nil)) ⟨_,hT,rfl,_,rfl⟩ (by show 2<=sizeLine;decide)
  have hn:H s.heap.objs.size=none:=I.hok.fresh (Nat.le_refl _)
  have cast:((i+1:Nat):Int)=(i:Int)+1:=by push_cast;rfl
  refine⟨.ref s.heap.objs.size,_,I2,rfl,⟨_,x,hn,rfl,rfl,fun ws hw=>by rw [I.list_inj hw q1];exact ex⟩,⟨⟨_,by rw [cast];exact c1⟩,hi2⟩,fun c hc=>?_⟩
  have hc':c=e\/c=it:=by simpa using hc
  have ne:c≠s.heap.objs.size:=by
   rcases hc' with rfl | rfl
   ·exact Nat.ne_of_lt lte
   ·exact Nat.ne_of_lt lti
  rw [Qe ne];exact(hf c hc).1
 done:=by
  intro X hP hw hK hc i pins s σ H E I hf st hg;subst hP hw hK;obtain⟨⟨old,he⟩,hi⟩:=st;obtain⟨xs,q1,hl⟩:=hg;obtain⟨its,r1,pl,_⟩:=I.list q1;have e1:=r1.length
  refine wpAny_pyNext_enum_end (I.ok.hd hc) he hi pl.isList (by simp;omega) fun h' kp=>⟨rfl,I.turnedL (t':=s.toks) (ch:=[e,it]) hf fun c o hc q=>?_⟩
  have hc':¬(c=e\/c=it):=by simpa using hc
  exact kp c o (fun z=>hc' (.inr z)) q
 self:=fun A i s Q E st h=>by
  obtain⟨⟨old,he⟩,_⟩:=st;exact wpAny_pyIter_enum he h
section
variable {X:Cx}
noncomputable def QnB(K:PySem.W.Frag)(tl:TE):TI:=fun σ H R=>tl σ H fun x H1=>∃a xs,x=.ref a/\SqL K H1 a xs/\R (Ite K a) H1
theorem Qik{e:Expr}{te:TE}{elts:List Expr}{kt:Nat}{pt p pos:Pos}(hg:Gl X "enumerate") (hm:X.mg "enumerate"=none) (he:PE X e te) (hs:starEach [e] X.env=[(false,eval e X.env)]):
  PI X (.Tuple elts kt pt) (.Call (.Name "enumerate" p) [e] [] pos) (QnB X.K te):=by
 intro pins s σ H R I h;refine Call_ (ZZ I hg hm PyProof.Rows.boot_enumerate (PyProof.Rows.callWith_type1 (e:=e) (rest:=[]) ?_ hs rfl));rw [hs];show wpAny _ _ (spliced ((false,eval e X.env)::backTo pos (starEach [] X.env))) _ _ s;refine Calls.spliced_cons (thn (he pins s σ H _ I h) fun u s1 ⟨x,H1,I1,rx,q1⟩=>?_);refine Calls.spliced_nil ?_;obtain⟨a,xs,ev,hq,q⟩:=q1;subst ev;cases rx;obtain⟨its,rv,pl,hz⟩:=I1.list hq;refine call_enumerate_list pl.isList fun h' b1 b2 b3 b4=>?_;refine wpAny_pyIter_enum b1 ?_;have I2:Inv X pins σ H1 { s1 with heap:=h' }:=I1.kept (t':=s1.toks) b4;refine⟨_,[s1.heap.objs.size+1,s1.heap.objs.size],_,_,H1,rfl,I2,Qdb a _ _ (Nat.succ_ne_self _),⟨⟨_,b1⟩,b2⟩,fun c hc=>?_,q⟩
 have hc':c=s1.heap.objs.size+1\/c=s1.heap.objs.size:=by simpa using hc
 have le:s1.heap.objs.size<=c:=by rcases hc' with rfl | rfl<;>omega
 exact I1.fpOk le (I1.hok.fresh le)
end
end L2
namespace L2
open PySem PySem.Spec PyProof.Rows
noncomputable def Cx.block(X:Cx)(xs:List Str)(scope:Scope)(C:Addr)(s:Shared)(H:Hp)(fp:List Addr):Cx :=
 { X with N:=hideN xs X.N++xs,s₀:=s,H₀:=H,env:=compEnvC scope (QcN X.env.cells scope.names []) C X.env,outer:=X.stack,ex:=fp,fn:=fun _=>false,pn:=[],xe:=fun _ _=>False }
structure CompOk(X:Cx)(xs:List Str)(scope:Scope):Prop where
 kind:scope.kind=.function
 loc:∀x∈xs,scope.names.lookup x=some .local
 all : ∀ y ∈ scope.names, (y.2 = .local -> (y.1 ∈ xs \/ y.1 = ".0") /\ scope.names.lookup y.1 = some .local) /\ y.2 ≠ .cell /\ (y.2 = .free -> X.env.scope.names.lookup y.1 = some .cell \/ X.env.scope.names.lookup y.1 = some .free)
 hid:∀x∈xs,scope.names.lookup (mang x)=none
 nd:xs.Nodup
 dot:(".0":Str)∉X.N
section
variable {X:Cx}{xs:List Str}{scope:Scope}{pins:List (Addr×Obj)}{σ:St}{H:Hp}{s:Shared}{fp:List Addr}
theorem CompOk.free_of(k:CompOk X xs scope)(hk:X.env.scope.kind=.function){y:Str}(h:(relabel scope X.env).names.lookup y=some .cell\/(relabel scope X.env).names.lookup y=some .free):(y,NameKind.free)∈scope.names:=by
 rw [QS hk,Zt]at h
 cases q:scope.names.lookup y with
 | none=>rw [q]at h;simp at h
 | some kd =>
  rw [q]at h;have m:=Yb q
  cases kd with
  | free=>exact m
  | cell=>exact absurd rfl (k.all _ m).2.1
  | _=>simp at h
theorem CompOk.local_of (k : CompOk X xs scope) (hk : X.env.scope.kind = .function) {y : Str} (h : (relabel scope X.env).names.lookup y = some .local) : y ∈ xs \/ y = ".0" := by
 rw [QS hk,Zt]at h
 cases q:scope.names.lookup y with
 | none=>rw [q]at h;simp at h
 | some kd =>
  rw [q]at h;have m:=Yb q
  cases kd with
  | «local»=>exact((k.all _ m).1 rfl).1
  | free =>
   simp only [Option.map_some]at h;split at h<;>cases h
  | _=>simp at h
theorem Q5{cells:List (Str×Addr)}{l:List (Str×NameKind)}{y:Str}{c:Addr}(e:(QcN cells l []).lookup y=some c):cells.lookup y=some c:=by
 rcases QaB e with z | z
 ·simp at z
 ·exact z
theorem Qiq{σ:St}{n i:Nat}{v:V}(e:(σ++List.replicate n none)[i]?=some (some v)):σ[i]?=some (some v):=by
 by_cases h:i < σ.length
 ·rw [List.getElem?_append_left h]at e;exact e
 ·rw [List.getElem?_append_right (by omega),List.getElem?_replicate]at e
  split at e<;>cases e
theorem Inv.block{h₁:Heap}{m:Str->Option Value}{tk:Nat}(I:Inv X pins σ H s)(k:CompOk X xs scope)(hf:∀b∈fp,Qcl X pins H b)(hfs:∀b∈fp,b<s.heap.objs.size)
  (hn:h₁.Ns s.heap.objs.size m) (kp:∀b o,s.heap.get? b=some o->h₁.get? b=some o):Inv (X.block xs scope s.heap.objs.size s H fp) [] (σ++List.replicate xs.length none) H { s with heap:=h₁,toks:=tk }:=by
 have hk:X.env.scope.kind=.function:=I.ok.kind
 have fsub:∀b∈fp,b∉frs X.stack:=fun b hb z=>by
  rcases List.mem_cons.mp (I.stkSub b z)with e | e
  ·exact(hf b hb).2.1 e
  ·exact(hf b hb).2.2.1 e
 have okB:(X.block xs scope s.heap.objs.size s H fp).Ok:={
  mod:=I.ok.mod
  kind:=k.kind
  glob:=I.ok.glob
  blt:=I.ok.blt
  above:=Nat.le_refl _
  inj:=fun y z c e1 e2=>I.ok.inj y z c (Q5 e1) (Q5 e2)
  has:=fun y h=>by
   have m:=k.free_of hk h;obtain⟨c,hc⟩:=I.ok.has y ((k.all _ m).2.2 rfl);exact⟨c,JK hc (.inl m)⟩
  cab:=fun y c h=>nomatch h
  hd:=I.ok.hd
  frames:=I.ok.frames
  stk:=.inl rfl
  exf:=fun b hb=>⟨Nat.ne_of_lt (hfs b hb),fun y c e=>(hf b hb).2.2.2.2.1 y c (Q5 e)⟩
  bs:=I.bs
  bsz:=Nat.le_trans I.ok.bsz I.sz
  noex:=fun b o e hb=>by
   rcases (hf b hb).2.2.2.1 with z | z
   ·exact I.ok.noex b o e z
   ·exact absurd (Nat.lt_of_lt_of_le (Heap.lt_size e) (Nat.le_trans I.ok.bsz z)) (Nat.lt_irrefl _)
  exfs:=fun b hb z=>fsub b hb z
  funs:=I.stack
  frf:=fun b hb=>I.stkFree b hb }
 refine⟨okB,rfl,I.bare,Un.kept kp,⟨m,hn,fun i y v e1 e2 e3=>?_⟩,fun y c e=>?_,I.hok.fresh (Nat.le_refl _),fun y c e=>I.freeC y c (Q5 e),(fun p hp=>by cases hp),I.hok.kept kp,?_⟩
 ·have e1:(hideN xs X.N++xs)[i]?=some y:=e1;have e3:Vis (relabel scope X.env) y:=e3;have q2:σ[i]?=some (some v):=Qiq e2
  have q0:(hideN xs X.N)[i]?=some y:=by
   have:=(List.getElem?_eq_some_iff.mp q2).1;rw [I.len,<-Z0 (xs:=xs)]at this;rw [List.getElem?_append_left this]at e1;exact e1
  obtain⟨z,q1,⟨zm,rfl⟩ | ⟨zn,rfl⟩⟩:=Qgf q0
  ·have no:=k.hid z zm
   have no':(relabel scope X.env).names.lookup (mang z)=none:=by rw [QS hk,Zt,no];rfl
   rcases e3 with w | w | w<;>(rw [no']at w;cases w)
  have ym:y∈X.N:=List.mem_of_getElem? q1
  have hcf:(relabel scope X.env).names.lookup y=some .cell\/(relabel scope X.env).names.lookup y=some .free:=by
   rcases e3 with z | z
   ·rcases k.local_of hk z with q | q
    ·exact absurd q zn
    ·exact absurd (q▸ym) k.dot
   ·exact z
  have m':=k.free_of hk hcf;have xk:=(k.all _ m').2.2 rfl;obtain⟨mm,hnn,hl⟩:=I.loc;obtain⟨u,r,l⟩:=hl i y v q1 q2 (.inr xk);refine⟨u,r,.inr ⟨hcf,?_⟩⟩
  rcases l with⟨l,_⟩ | ⟨_,c,e,o,ho,hd⟩
  ·have l:X.env.scope.names.lookup y=some .local:=l
   rcases xk with z | z<;>(rw [l]at z;cases z)
  ·exact⟨c,JK e (.inl m'),o,kp c o ho,hd⟩
 ·obtain⟨v,o,ho,hd⟩:=I.cell y c (Q5 e);exact⟨v,o,kp c o ho,hd⟩
 ·show(σ++List.replicate xs.length none).length=(hideN xs X.N++xs).length;simp [I.len,Z0]
noncomputable def PTO(X:Cx)(tl:Option Expr)(tt:TT):Prop:=match tl with
 | none=>∀σ H Q,tt σ H Q->Q true H
 | some c=>PT X c tt
noncomputable def QfC(wi:TI)(n:Nat)(g:TG)(tt:TT)(te:TE):TE:=fun σ H Q=>wi σ H fun J H1=>∀D,H1 D=none->∃W:Nat->Nat->List V->Hp->Prop,(∃m,W 0 m [] (upd H1 D (.lst [])))/\∀i m ys H2,W i m ys H2->H2 D=some (.lst ys) /\
 ((J.stop i H2/\Q (.ref D) H2)\/(J.go i H2/\ys.length<sizeLine/\∀x H3 os,os.length=n->J.yld i H2 x H3->g x (σ++os) H3 fun σ' H4=>(∃os',os'.length=n/\σ'=σ++os')/\tt σ' H4 fun b H5=>if b=true then te σ' H5 fun y H6=>H6 D=some (.lst ys)/\∃m',m'<m/\W (i+1) m' (ys++[y]) (upd H6 D (.lst (ys++[y])))else ∃m',m'<m/\W (i+1) m' ys H5))
theorem Jn{pos:Pos}{elt tg iter:Expr}{tl:Option Expr}{g:TG}{tt:TT}{te:TE}{n:Nat}{Q:VK}{it:Addr}{tn:Nat->Heap->Prop}{J:It}{E:Value->Shared->Prop}{RR:Value->Addr->Result->Shared->Prop}(hc:X.calm=true)(k:CompOk X xs scope)
  (hn:xs.length=n) (hg:∀C s H fp,PG (X.block xs scope C s H fp) tg g) (ht:∀C s H fp,PTO (X.block xs scope C s H fp) tl tt) (he:∀C s H fp,PE (X.block xs scope C s H fp) elt te)
  (I2:Inv X pins σ H s) (T:Turn X.prog X.w X.K tg J fp it tn) (st2:tn 0 s.heap) (f2:∀b∈fp,Qcl X pins H b)
  (q:∀D,H D=none->∃W:Nat->Nat->List V->Hp->Prop,(∃m,W 0 m [] (upd H D (.lst [])))/\∀i m ys H2,W i m ys H2->H2 D=some (.lst ys) /\
   ((J.stop i H2/\Q (.ref D) H2)\/(J.go i H2/\ys.length<sizeLine/\∀x H3 os,os.length=n->J.yld i H2 x H3->g x (σ++os) H3 fun σ' H4=>(∃os',os'.length=n/\σ'=σ++os')/\tt σ' H4 fun b H5=>if b=true then te σ' H5 fun y H6=>H6 D=some (.lst ys)/\∃m',m'<m/\W (i+1) m' (ys++[y]) (upd H6 D (.lst (ys++[y])))else ∃m',m'<m/\W (i+1) m' ys H5)))
  (hRR:∀D C s' H' m,Inv X pins σ H' s'->s'.heap.Ns C m->Qcl X pins H' C->Q (.ref D) H'->RR (.ref D) C (.ok .next) s'):
  wpAny (model X.prog X.w) X.A (newList []) (fun acc s₃=>wpAny (model X.prog X.w) X.A (newFunctionEnv scope X.env.globals (QcN X.env.cells scope.names []) [] X.env.qual none .none (some X.env)) (fun cenv s₄ =>
   codeAny (model X.prog X.w) X.A (.compStart (.ListComp elt [⟨tg,iter,tl.toList,0⟩] scope pos) 0 (.ref it) acc { cenv with scope:=relabel scope X.env }) (RR acc cenv.locals) s₄) E s₃) E s:=by
 have hk:X.env.scope.kind=.function:=I2.ok.kind
 refine wpAny_newObj_type (wpAny_newFunctionEnv (fun y hy=>(k.all y hy).2.1) (by intro y hy;simp at hy) (fun h₁ hns₁ hsb₁=>?_) k.kind)
 dsimp only at hns₁ hsb₁ ⊢;have hD:H s.heap.objs.size=none:=I2.hok.fresh (Nat.le_refl _);obtain⟨W,⟨m0,w0⟩,turn⟩:=q s.heap.objs.size hD
 have I3:Inv X pins σ (upd H s.heap.objs.size (.lst [])) { s with heap:=s.heap.push { cls:=.type "list",dict:=none,data:=.seq ([]:List Value).toArray } }:=
  I2.laid (t':=s.toks) (fun b o e=>Heap.get?_push_of_some _ e) (Nat.le_refl _) (show ObjOk X.prog X.w _ _ _ (.lst [])from⟨Nat.zero_le _,[],_,.nil,Heap.get?_push_size _ rfl⟩)
 have lt2:∀b∈fp,b<s.heap.objs.size:=fun b hb=>by
  obtain⟨o,e,_⟩:=T.obj 0 _ st2 b hb;exact Heap.lt_size e
 have f3:∀b∈fp,Qcl X pins (upd H s.heap.objs.size (.lst [])) b:=fun b hb=>⟨by rw [Qe (Nat.ne_of_lt (lt2 b hb))];exact(f2 b hb).1,(f2 b hb).2⟩
 have lt3:∀b∈fp,b<(s.heap.push { cls:=.type "list",dict:=none,data:=.seq ([]:List Value).toArray }).objs.size:=fun b hb=>by
  rw [Heap.size_push];exact Nat.lt_succ_of_lt (lt2 b hb)
 generalize hs3:({ s with heap:=s.heap.push { cls:=.type "list",dict:=none,data:=.seq ([]:List Value).toArray } }:Shared)=s3 at I3
 have e3:s3.heap=s.heap.push { cls:=.type "list",dict:=none,data:=.seq ([]:List Value).toArray }:=by rw [<-hs3]
 rw [<-e3]at hns₁ hsb₁ lt3 ⊢;have kp:∀b o,s3.heap.get? b=some o->h₁.get? b=some o:=fun b o e=>hsb₁.extBut b o (Nat.ne_of_lt (Heap.lt_size e)) (Heap.get?_push_of_some _ e);have IB:=I3.block (tk:=s.toks+([]:List (Str×Value)).length) k f3 lt3 hns₁ kp
 have es:({ s3 with heap:=h₁,toks:=s.toks+([]:List (Str×Value)).length }:Shared)={ s with heap:=h₁,toks:=s.toks+([]:List (Str×Value)).length }:=by rw [<-hs3]
 rw [es]at IB;generalize hX:X.block xs scope s3.heap.objs.size s3 (upd H s.heap.objs.size (.lst [])) fp=Y at IB;have HE:PE Y elt te:=hX▸he _ _ _ _;have HT:PTO Y tl tt:=hX▸ht _ _ _ _;have HG:PG Y tg g:=hX▸hg _ _ _ _
 have hP:Y.prog=X.prog:=by rw [<-hX];rfl
 have hw:Y.w=X.w:=by rw [<-hX];rfl
 have hK:Y.K=X.K:=by rw [<-hX];rfl
 have hA:Y.A=X.A:=by rw [<-hX];rfl
 have hcY:Y.calm=true:=by rw [<-hX];exact hc
 have hxe:Y.xe=fun _ _=>False:=by rw [<-hX];rfl
 have henv:Y.env=compEnvC scope (QcN X.env.cells scope.names []) s3.heap.objs.size X.env:=by rw [<-hX];rfl
 have fpY:∀{H':Hp},(∀b∈fp,H' b=none)->∀b∈fp,Qcl Y [] H' b:=fun hn b hb=>by
  have hb1:=(f2 b hb).2;rw [<-hX]
  refine⟨hn b hb,?_,fun z=>?_,.inl hb,fun y c e=>hb1.2.2.2.1 y c (Q5 e),(fun p hp=>by cases hp)⟩
  ·exact Nat.ne_of_lt (lt3 b hb)
  ·rcases List.mem_cons.mp (I3.stkSub b z)with e | e
   ·exact hb1.1 e
   ·exact hb1.2.1 e
 -- behind the block
 have back:∀{σ':St} {H':Hp} {s':Shared},Inv Y [] σ' H' s'->Inv X pins σ H' s'/\(∃m,s'.heap.Ns s3.heap.objs.size m)/\Qcl X pins H' s3.heap.objs.size:=fun {σ' H' s'} J'=>by
  have u:=J'.base;have os:=J'.os;have hok:=J'.hok;have bare:=J'.bare;obtain⟨mm,hnn,_⟩:=J'.loc;have fr:=J'.free;rw [henv]at hnn fr;rw [<-hX]at u os hok;refine⟨I3.call' os u hok bare fun b hb=>?_,⟨mm,hnn⟩,I3.fpOk (Nat.le_refl _) fr⟩;exact⟨(f2 b hb).2.2.2.1,(f2 b hb).2.1,(f2 b hb).2.2.2.2.1,(f2 b hb).2.2.2.2.2⟩
 have loop:∀s₃:Shared,Inv Y [] (σ++List.replicate xs.length none) (upd H s.heap.objs.size (.lst [])) s₃->tn 0 s₃.heap ->
   codeAny (model X.prog X.w) X.A (.compLoop (.ListComp elt [⟨tg,iter,tl.toList,0⟩] scope pos) 0 (.ref it) (.ref s.heap.objs.size) Y.env) (RR (.ref s.heap.objs.size) s3.heap.objs.size) s₃:=by
  intro s₃ J3 t3
  refine Qbn (fun m s'=>∃i os H' ys,os.length=n/\Inv Y [] (σ++os) H' s'/\tn i s'.heap/\(∀b∈fp,H' b=none)/\W i m ys H') ?_ m0 ⟨0,_,_,[],by rw [List.length_replicate];exact hn,J3,t3,fun b hb=>(f3 b hb).1,w0⟩
  rintro m s4 ⟨i,os,H4,ys,lo,J4,st4,fr4,w4⟩;obtain⟨hDl,tr⟩:=turn i m ys H4 w4
  rcases tr with⟨stop,qn⟩ | ⟨go,hz,step⟩
  ·have dn:=T.done Y hP hw hK hcY i [] s4 (σ++os) H4 (notedBy (model X.prog X.w) X.A Y.env fun e s'=>RR (.ref s.heap.objs.size) s3.heap.objs.size (.error e) s') J4 (fpY fr4) st4 stop;rw [hA]at dn;refine thn dn fun r s5 ⟨hr,J5⟩=>?_;subst hr;obtain⟨I5,⟨m5,n5⟩,f5⟩:=back J5;exact hRR _ _ _ _ _ I5 n5 f5 qn
  ·have im:=T.item Y hP hw hK hcY i [] s4 (σ++os) H4 (notedBy (model X.prog X.w) X.A Y.env fun e s'=>RR (.ref s.heap.objs.size) s3.heap.objs.size (.error e) s') J4 (fpY fr4) st4 go;rw [hA]at im;refine thn im fun r s5 ⟨u,hr,h5⟩=>?_;subst hr;refine thn h5 fun _ s6 ⟨v,H6,J6,rv,y6,st6,fr6⟩=>?_;have J6':=J6.pinned (fpY fr6) (T.obj _ _ st6)
   have noE:∀{EE:Value->Shared->Prop},∀e s',Y.xe e s'->EE e s':=fun {EE} e s' z=>by rw [hxe]at z;exact z.elim
   have asg:=HG _ s6 (σ++os) H6 v u _ J6' rv (step v H6 os lo y6);rw [hP,hw,hA]at asg;refine wpAny_mono asg (fun _ s7 ⟨σ7,H7,J7,⟨os',lo',e7⟩,q7⟩=>?_) noE;subst e7
   have fin:∀{s9:Shared} {H9:Hp} {m':Nat} {zs:List V},Inv Y ([]++YJ fp s6.heap) (σ++os') H9 s9->m'<m->W (i+1) m' zs H9->∃m',m'<m/\∃i os H' ys,os.length=n/\Inv Y [] (σ++os) H' s9/\tn i s9.heap/\(∀b∈fp,H' b=none)/\W i m' ys H':=fun {s9 H9 m' zs} J9 hm' w9=>by
    refine⟨m',hm',i+1,os',H9,zs,lo',J9.unpinned,T.keep _ _ _ st6 fun b hb ob e=>(J9.pin (b,ob) (List.mem_append_right _ (List.mem_append_right _ (Zg hb e)))).1,fun b hb=>?_,w9⟩;obtain⟨ob,e,d⟩:=T.obj _ _ st6 b hb;exact(J9.pin (b,ob) (List.mem_append_right _ (List.mem_append_right _ (Zg hb e)))).2.1
   have tst:wpAny (model X.prog X.w) X.A (forIn tl.toList true fun c r=>if r=true then do let ok <-isTrue c Y.env (eval c Y.env);pure (ForInStep.yield ok)else pure (ForInStep.yield r)) (TP Y ([]++YJ fp s6.heap) (σ++os') fun b H5=>if b=true then te (σ++os') H5 fun y H6=>H6 s.heap.objs.size=some (.lst ys)/\∃m',m'<m/\W (i+1) m' (ys++[y]) (upd H6 s.heap.objs.size (.lst (ys++[y])))else ∃m',m'<m/\W (i+1) m' ys H5) (notedBy (model X.prog X.w) X.A Y.env fun e s'=>RR (.ref s.heap.objs.size) s3.heap.objs.size (.error e) s') s7:=by
    refine Qfr ?_
    cases tl with
    | none=>exact⟨H7,J7,HT _ _ _ q7⟩
    | some c =>
     have z:=(show PT Y c tt from HT) _ s7 _ _ _ J7 q7;rw [hP,hw,hA]at z;exact wpAny_mono z (fun _ _ h=>h) noE
   refine wpAny_mono tst (fun b s8 ⟨H8,J8,q8⟩=>?_) fun _ _ e=>e
   cases b with
   | false =>
    rw [if_neg Bool.false_ne_true]at q8 ⊢;obtain⟨m',hm',w8⟩:=q8;exact fin J8 hm' w8
   | true =>
    rw [if_pos rfl]at q8 ⊢;have ev:=HE _ s8 _ _ _ J8 q8;rw [hP,hw,hA]at ev;refine wpAny_mono ev (fun y s8 ⟨yv,H8,J8,ry,hD8,m',hm',w8⟩=>?_) noE;have ap:=Qan (X:=Y) _ s8 _ H8 (.ref s.heap.objs.size) [yv] (.ref s.heap.objs.size) [y] (fun _ H'=>H'=upd H8 s.heap.objs.size (.lst (ys++[yv]))) J8 rfl (.cons ry .nil) ⟨_,ys,yv,rfl,rfl,hD8,hz,rfl⟩;rw [hP,hw,hA]at ap;refine wpAny_mono ap (fun _ s9 ⟨_,H9,J9,_,e9⟩=>?_) noE;subst e9;exact fin J9 hm' w8
 have t1:tn 0 h₁:=T.keep 0 _ _ st2 fun b hb o e=>kp b o (by rw [e3];exact Heap.get?_push_of_some _ e)
 have go:=loop _ IB t1;rw [henv]at go;refine codeAny_compStart_list ?_ ?_
 ·exact go
 ·exact T.self X.A 0 _ _ _ t1 go
theorem QdO{pos:Pos}{elt tg iter:Expr}{tl:Option Expr}{wi:TI}{n:Nat}{g:TG}{tt:TT}{te:TE}(hc:X.calm=true)(k:CompOk X xs scope)(hi:PI X tg iter wi)(hn:xs.length=n)(hg:∀C s H fp,PG (X.block xs scope C s H fp) tg g)(ht:∀C s H fp,PTO (X.block xs scope C s H fp) tl tt)(he:∀C s H fp,PE (X.block xs scope C s H fp) elt te)
  (hs:∀v,foldedSetIterable iter X.env v=pure v):PE X (.ListComp elt [⟨tg,iter,tl.toList,0⟩] scope pos) (QfC wi n g tt te):=by
 intro pins s σ H Q I h;rw [eval_ListComp];refine wpAny_comprehension_free (use:=none) rfl hs (Jq fun y hy hf=>I.ok.has y.1 ((k.all y hy).2.2 hf)) k.kind (fun y hy hl=>((k.all y hy).1 hl).2) ?_;refine thn (hi pins s σ H _ I h) fun v s1 h1=>thn h1 fun itv s2 h2=>?_;obtain⟨it,fp,tn,J,H2,e,I2,T,st2,f2,q⟩:=h2;subst e;refine Jn (RR:=fun acc C=>compPost (model X.prog X.w) X.A X.xe none (EP X pins σ Q) acc C) hc k hn hg ht he I2 T st2 f2 q ?_;intro D C s' H' m I' n' f' q';refine⟨m,n',fun h' sb=>?_⟩;exact⟨.ref D,H',I'.turned (t':=s'.toks) (fun b o hb e=>sb.extBut b o hb e) f'.1 f'.2.1 f'.2.2.2.1 f'.2.2.2.2.1 f'.2.2.2.2.2,rfl,q'⟩
theorem Qic{pos py spos:Pos}{elt tg iter:Expr}{tl:Option Expr}{wi:TI}{n:Nat}{g:TG}{tt:TT}{te:TE}{y:Str}{j:Nat}(hc:X.calm=true)(hN:X.N.Nodup)(k:CompOk X xs scope)(hi:PI X tg iter wi)(hn:xs.length=n)(hg:∀C s H fp,PG (X.block xs scope C s H fp) tg g)(ht:∀C s H fp,PTO (X.block xs scope C s H fp) tl tt)(he:∀C s H fp,PE (X.block xs scope C s H fp) elt te)
  (hs:∀v,foldedSetIterable iter X.env v=pure v) (hj:X.N[j]?=some y) (hy:Loc X.env.scope y) (hfn:X.fn y=true\/X.env.scope.names.lookup y=some .local):
  PS X (.Assign [.Name y py] (.ListComp elt [⟨tg,iter,tl.toList,0⟩] scope pos) spos) (fun D σ H=>QfC wi n g tt te σ H fun v H1=>D.nx (σ.set j (some v)) H1):=by
 have hsw:∃b,swapsWith (.ListComp elt [⟨tg,iter,tl.toList,0⟩] scope pos) (some (.Name y py)) spos.line X.env=pure b:=⟨_,rfl⟩;obtain⟨b,hsw⟩:=hsw
 cases b with
 | false=>exact QbM hN hj hy (QdO hc k hi hn hg ht he hs) hsw hfn
 | true =>
  intro pins s σ H D I h;rw [exec_Assign_Name_used _ _ _ _ hsw];refine wpAny_bind (wpAny_standAt (wpAny_bind ?_))
  show wpAny _ _ (do let _ <-comprehension (.ListComp elt [⟨tg,iter,tl.toList,0⟩] scope pos) scope X.env _ (newList []) false (eval iter X.env) (some (assign (.Name y py) X.env))) _ _ s
  refine wpAny_bind (wpAny_mono (wpAny_comprehension_free (use:=some (assign (.Name y py) X.env)) (Q:=fun _ s'=>SP X pins D .next s') rfl hs (Jq fun y hy hf=>I.ok.has y.1 ((k.all y hy).2.2 hf)) k.kind (fun y hy hl=>((k.all y hy).1 hl).2) ?_)
   (fun _ s' hq=>wpAny_pure (wpAny_pure hq)) fun _ _ e=>e)
  refine thn (hi pins s σ H _ I h) fun v s1 h1=>thn h1 fun itv s2 h2=>?_;obtain⟨it,fp,tn,J,H2,e,I2,T,st2,f2,q⟩:=h2;subst e;refine Jn (Q:=fun v H1=>D.nx (σ.set j (some v)) H1) (RR:=fun acc C=>compPost (model X.prog X.w) X.A X.xe (some (assign (.Name y py) X.env)) (fun _ s'=>SP X pins D .next s') acc C) hc k hn hg ht he I2 T st2 f2 q ?_;intro Da C s' H' m I' n' f' q';obtain⟨o,es,ep,ho,hd,r⟩:=id n'
  have Ip:Inv X (pins++YJ [C] s'.heap) σ H' s':=I'.pinned (fun b hb=>by
   have e:b=C:=by simpa using hb
   subst e
   exact f') fun b hb=>by
    have e:b=C:=by simpa using hb
    subst e
    exact⟨o,ho,fun v z=>by rw [hd]at z;cases z⟩
  refine thn (YL (i:=j) hN hj hy hfn _ s' σ H' (.ref Da) (.ref Da) _ Ip rfl q') fun _ s'' ⟨σ2,H2',J2,q2⟩=>?_
  have pc:=J2.pin (C,o) (List.mem_append_right _ (List.mem_append_right _ (Zg (by simp) ho)))
  refine⟨m,⟨o,es,ep,pc.1,hd,r⟩,fun h' sb=>?_⟩;exact⟨σ2,H2',J2.unpinned.turned (t':=s''.toks) (fun b ob hb e=>sb.extBut b ob hb e) pc.2.1 f'.2.1 f'.2.2.2.1 f'.2.2.2.2.1 f'.2.2.2.2.2,q2⟩
end
end L2
namespace L2
open PySem
open Sem (wp)
open AutoSeq1 (wpAny_loadPart')
section
variable {prog:Program}{w:World}{A:Around}{E:Value->Shared->Prop}{s:Shared}
end
end L2
namespace L2
open PySem PySem.Spec PyProof.Rows
section
variable {X:Cx}
noncomputable def Qoi(K:PySem.W.Frag)(te:TE):TE:=fun σ H Q=>te σ H fun x H1=>∃a xs,x=.ref a/\SqL K H1 a xs/\∀p,H1 p=none->Q (.ref p) (upd H1 p (.lst xs.reverse))
theorem QkL{e:Expr}{te:TE}{j:Nat}{p1 p3 p2 pos:Pos}(he:PE X e te):PE X (.Subscript e (.Slice none none (some (.UnaryOp .USub (.Constant (.int 1) j p1) p3)) p2) pos) (Qoi X.K te):=by
 intro pins s σ H Q I h;refine Subscript_ (thn (he pins s σ H _ I h) fun v s1 ⟨x,H1,I1,r1,q1⟩=>?_);have hk:PO X (some (.UnaryOp .USub (.Constant (.int 1) j p1) p3)) (QjX (tUn (rU fun i=>.int (-i)) (tC (.int 1)))):=QdH (QkJ QgJ QdN);refine wpAny_Slice ?_;rw [evalPart_none];refine wpAny_pure ?_;refine wpAny_pure ?_;refine thn (hk pins s1 σ H1 (fun o H2=>o=some (-1)/\H2=H1) I1 ⟨1,rfl,-1,rfl,rfl,rfl⟩) fun vk s3 ⟨o,H3,I3,pk,eo,eH⟩=>?_;subst eo eH;have I4:Inv X pins σ H3 { s3 with heap:=s3.heap.push { cls:=.type "slice",data:=.fields #[.none,.none,vk] } }:=I3.kept (t':=s3.toks) fun b ob q=>Heap.get?_push_of_some _ q;obtain⟨a,xs,rfl,hq,q⟩:=q1;cases r1;obtain⟨its,r,ht,hz⟩:=I4.list hq;have hlen:=r.length;show wpAny (model X.prog X.w) X.A (subscriptTail e (.Slice none none (some (.UnaryOp .USub (.Constant (.int 1) j p1) p3)) p2) (.ref a) (.ref s3.heap.objs.size)) (EP X pins σ Q) X.xe { s3 with heap:=s3.heap.push { cls:=.type "slice",data:=.fields #[.none,.none,vk] } }
 refine tail_any (ops:=[.ref a,.ref s3.heap.objs.size]) ht.isList.typeIs slot_list_getitem.lookup ?_ (by with_unfolding_all rfl)
 refine wpAny_getItem_list_slice ht.isList (Heap.IsSliceOf.new ..) .none .none pk (by simp) ?_ (by rw [List.size_toArray]<;>omega)
 rw [PySem.W.krv_pick];refine⟨.ref _,_,I4.laid (t':=s3.toks) (o:=.lst xs.reverse) (fun b ob q=>Heap.get?_push_of_some _ q) (Nat.le_refl _) ?_,rfl,q _ (I4.hok.fresh (Nat.le_refl _))⟩
 exact⟨by rw [List.length_reverse];exact hz,_,0,by simpa using r.reverse,Heap.get?_push_size _ rfl⟩
end
end L2
namespace L2
open PySem PySem.Spec PyProof.Rows
open Sem (wp)
section
variable {prog:Program}{w:World}{A:Around}{E:Value->Shared->Prop}{s:Shared}
theorem Qd3:typeLookup (.type "list_reverseiterator") "__len__"=pure none:=by rw [typeLookup_type,builtinLookup_eq_fast];kernel_rfl
theorem Qf8:typeLookup (.type "list_reverseiterator") "__length_hint__"=pure (some (.builtin "list_reverseiterator.__length_hint__")):=by rw [typeLookup_type,builtinLookup_eq_fast];kernel_rfl
theorem QcJ{R:Result->Shared->Prop}{I l:Addr}{items:Array Value}(hh:A.handled=none)(hit:s.heap.IsRevIter I l ((items.size:Int) - 1))(hl:s.heap.IsList l items)(hne:l≠I)(hn:items.size<=sizeLine)(S:Addr)(res:Value)(c₀:Nat)
  (hS:s.heap.get? S=some { cls:=.type "list",data:=.seq #[] c₀ }) (hSI:S≠I) (hSl:S≠l)
  (hR:∀h' tk acc' c',(∀b o,b≠S->b≠I->s.heap.get? b=some o->h'.get? b=some o)->h'.get? S=some { cls:=.type "list",dict:=none,data:=.seq acc' c',slots:=#[] } ->
   ItemsOf (fun i v=>items[items.size-1-i]?=some v) acc' items.size->R (.ok (.ret res)) { s with heap:=h',toks:=tk }):
  wpAny (model prog w) A.in1 (Builtin.List.listExtendWith (.ref S) (.ref I) res)
   (fun fin s'=>match fin with | .done f=>R (.ok f) s' | .again c'=>c'.quiet=true/\codeAny (model prog w) A c' R s') (fun e s'=>R (.error e) s') s:=by
 have hTy:s.TypeIs (.ref I) "list_reverseiterator":=hit.typeIs;have W:=(Walks.listRev (prog:=prog) (w:=w) (A:=A.in1) hh I l hne items).toS
 have hSf:S∉[I,l]:=fun hm=>by
  rcases List.mem_cons.mp hm with e | hm
  ·exact hSI e
  ·exact hSl (List.mem_singleton.mp hm)
 unfold Builtin.List.listExtendWith;refine wpAny_bind (wpAny_typeOf hTy ?_)
 have h1:Builtin.List.listSameRef (.ref S) (.ref I)=false:=by simp [Builtin.List.listSameRef,hSI]
 have h2:(Value.type "list_reverseiterator"==Value.type "list")=false:=by decide
 have h3:(Value.type "list_reverseiterator"==Value.type "tuple")=false:=by decide
 simp only [h1,h2,h3,Bool.or_false,Bool.false_eq_true,if_false];refine wpAny_bind (wpAny_pyIter_revIter hit ?_);refine wpAny_bind (wpAny_holding ?_);unfold Builtin.List.listLengthHint;refine wpAny_bind (wpAny_specialOf hTy Qd3 ?_);show wpAny _ A.in1 (specialOf (Value.ref I) (Str.ofString "__length_hint__") >>= _) _ _ _;refine wpAny_bind (wpAny_specialOf hTy Qf8 ?_);generalize hid:("list_reverseiterator.__length_hint__":String)=id0
 wp_delta
 rw [show splitId id0=some ("list_reverseiterator","__length_hint__")from by subst hid;decide +kernel]
 subst hid
 refine wpAny_bind (wpAny_isInstance (T:="list_reverseiterator") (b:=true) hTy (by rw [isSubtype_type];kernel_rfl) ?_)
 refine wpAny_ite_split (fun hab=>absurd hab (by decide)) (fun _=>?_)
 refine wpAny_ite_split (fun _=>?_) (fun hab=>absurd (by decide +kernel) hab)
 refine wpAny_ite_split (fun hab=>absurd hab (by decide +kernel)) (fun _=>?_)
 refine wpAny_pure ?_
 rw [if_neg (by decide)]
 refine wpAny_pure ⟨plainId_quiet F.plain_extend_loop _,codeAny_extend_loopS W hn S hSf res items.size 0 _ #[] c₀ rfl (Nat.zero_le _) ⟨Nat.zero_le _,by simpa using hit,hl⟩ hS (ItemsOf.nil _) fun s' acc' c' hm hS' hacc=>?_⟩
 rw [Moved.eq_with hm];refine hR s'.heap s'.toks acc' c' (fun b o hb hb2 e=>hm.heap b o (fun hmem=>?_) e) hS' hacc
 rcases List.mem_cons.mp hmem with e' | hmem
 ·exact hb e'
 ·exact hb2 (List.mem_singleton.mp hmem)
theorem JM{Q:Value->Shared->Prop}{I l:Addr}{items:Array Value}(hh:A.handled=none)(hit:s.heap.IsRevIter I l ((items.size:Int) - 1))(hl:s.heap.IsList l items)(hne:l≠I)(hn:items.size<=sizeLine)
  (hQ:∀h' tk acc' c',(∀b o,b≠I->s.heap.get? b=some o->h'.get? b=some o) ->
   h'.get? s.heap.objs.size=some { cls:=.type "list",dict:=none,data:=.seq acc' c',slots:=#[] }->ItemsOf (fun i v=>items[items.size-1-i]?=some v) acc' items.size->Q (.ref s.heap.objs.size) { s with heap:=h',toks:=tk }):
  wpAny (model prog w) A (call (.type "list") [.ref I]) Q E s:=by
 refine callType_codes (Q₁ := fun obj s₁ => obj = .ref s.heap.objs.size /\ s₁ = { s with heap := s.heap.push { cls := .type "list", data := .seq #[] } }) F.called_list (F.typeCall_list_1 _) F.entry_list_init
  (code_list_new _ ⟨rfl,rfl⟩) fun obj s₁ h₁=>?_
 obtain⟨rfl,rfl⟩:=h₁;have hS:(s.heap.push { cls:=.type "list",data:=.seq #[] }).get? s.heap.objs.size=some { cls:=.type "list",data:=.seq #[] }:=Heap.get?_push_size _ rfl
 have hI:s.heap.objs.size≠I:=by
  obtain⟨o,e,_⟩:=hit;exact Ne.symm (Nat.ne_of_lt (Heap.lt_size e))
 have hL:s.heap.objs.size≠l:=by
  obtain⟨o,e,_⟩:=hl;exact Ne.symm (Nat.ne_of_lt (Heap.lt_size e))
 refine⟨⟨_,hS,rfl⟩,F.args_list_init_2 _ _,?_⟩
 show wpAny _ _ (do let old <-Builtin.List.listItems (.ref s.heap.objs.size);Builtin.List.listUpdate (.ref s.heap.objs.size) (fun _=>#[]);letGo old.toList.reverse;Builtin.List.listExtendWith (.ref s.heap.objs.size) (.ref I) .none) _ _ _
 refine wpAny_bind ?_;unfold Builtin.List.listItems;refine wpAny_bind (wpAny_seqItems hS rfl (wpAny_pure ?_));show wpAny _ _ (updateSeq s.heap.objs.size (fun _=>#[]) >>= fun _=>letGo (#[]:Array Value).toList.reverse >>= fun _=>Builtin.List.listExtendWith (.ref s.heap.objs.size) (.ref I) .none) _ _ _;refine wpAny_bind (wpAny_updateSeq hS rfl ?_);have hS₂:=Heap.get?_update_self (Obj.mapSeq (fun _=>(#[]:Array Value))) hS rfl
 have oth:∀b o,s.heap.get? b=some o->((s.heap.push { cls:=.type "list",data:=.seq #[] }).update s.heap.objs.size (Obj.mapSeq (fun _=>(#[]:Array Value)))).get? b=some o :=
  fun b o e=>(Heap.get?_update_other _ _ (Ne.symm (Nat.ne_of_lt (Heap.lt_size e)))).trans (Heap.get?_push_of_some _ e)
 refine wpAny_bind (wpAny_letGo ?_);refine QcJ (A:=A.in1) hh (l:=l) (items:=items) ?_ ?_ hne hn _ .none _ hS₂ hI hL fun h' tk acc' c' hk hS' hacc=>?_
 ·exact hit.at fun o e=>oth _ _ e
 ·exact hl.at fun o e=>oth _ _ e
 ·exact⟨rfl,hQ h' tk acc' c' (fun b o hb e=>hk b o (Nat.ne_of_lt (Heap.lt_size e)) hb (oth b o e)) hS' hacc⟩
end
section
variable {X:Cx}
theorem QfM{xs:List V}{its:List Value}{acc:Array Value}(r:Vals xs its)(h:ItemsOf (fun i v=>its.toArray[its.toArray.size-1-i]?=some v) acc its.toArray.size):Vals xs.reverse acc.toList:=by
 have e:acc.toList=its.reverse:=by
  refine List.ext_getElem? fun i=>?_;by_cases hi:i<its.length
  ·rw [List.getElem?_reverse hi]
   have hs:acc.size=its.length:=by simpa using h.1
   have hi':i<acc.size:=by omega
   have h1:=h.2 i acc[i] (by simp [hi'])
   simp only [List.getElem?_toArray,List.size_toArray]at h1;rw [h1];simp [hi']
  ·have hs:acc.size=its.length:=by simpa using h.1
   rw [List.getElem?_eq_none (by simp;omega),List.getElem?_eq_none (by simp;omega)]
 rw [e];exact r.reverse
theorem Qim{e:Expr}{te:TE}{p q pos pos2:Pos}(hc:X.calm=true)(hg:Gl X "list") (hm:X.mg "list"=none) (hg2:Gl X "reversed") (hm2:X.mg "reversed"=none) (he:PE X e te) (hs:starEach [e] X.env=[(false,eval e X.env)]):
  PE X (.Call (.Name "list" p) [.Call (.Name "reversed" q) [e] [] pos2] [] pos) (Qoi X.K te):=by
 intro pins s σ H Q I h;refine wpAny_Call_Name_kw (ZZ I hg hm PyProof.Rows.boot_list ?_);refine PyProof.Rows.callWith_type1 (e:=.Call (.Name "reversed" q) [e] [] pos2) (rest:=[]) ?_ rfl rfl;show wpAny _ _ (spliced ((false,eval (.Call (.Name "reversed" q) [e] [] pos2) X.env)::backTo pos (starEach [] X.env))) _ _ s;refine Calls.spliced_cons ?_;refine wpAny_Call_Name_kw (ZZ I hg2 hm2 boot_reversed ?_);refine PyProof.Rows.callWith_type1 (e:=e) (rest:=[]) ?_ hs rfl;rw [hs];show wpAny _ _ (spliced ((false,eval e X.env)::backTo pos2 (starEach [] X.env))) _ _ s;refine Calls.spliced_cons (thn (he pins s σ H _ I h) fun u s1 ⟨x,H1,I1,rx,q1⟩=>?_);refine Calls.spliced_nil ?_;obtain⟨a,xs,ev,hq,q⟩:=q1;subst ev;cases rx;obtain⟨its,rv,pl,hz⟩:=I1.list hq;refine call_reversed_list pl.isList ?_;refine Calls.spliced_nil ?_;have I2:Inv X pins σ H1 { s1 with heap:=s1.heap.push (revObj a ((its.toArray.size:Int) - 1)) }:=I1.kept (t':=s1.toks) fun b o e=>Heap.get?_push_of_some _ e
 have st:(s1.heap.push (revObj a ((its.toArray.size:Int) - 1))).IsRevIter s1.heap.objs.size a ((its.toArray.size:Int) - 1):=⟨_,Heap.get?_push_size _ rfl,rfl,by simp [revObj]⟩
 have hl:(s1.heap.push (revObj a ((its.toArray.size:Int) - 1))).IsList a its.toArray:=pl.isList.at fun o e=>Heap.get?_push_of_some _ e
 have hne:a≠s1.heap.objs.size:=by
  obtain⟨o,e,_⟩:=pl.isList;exact Nat.ne_of_lt (Heap.lt_size e)
 refine JM (I2.ok.hd hc) st hl hne (by rw [List.size_toArray,<-rv.length];exact hz) fun h' tk acc c' kp hS hacc=>?_
 have e1:(s1.heap.push (revObj a ((its.toArray.size:Int) - 1))).objs.size=s1.heap.objs.size+1:=by simp [Heap.push]
 have hS':=hS
 refine⟨.ref _,_,I1.laid (t':=tk) (o:=.lst xs.reverse) (a:=(s1.heap.push (revObj a ((its.toArray.size:Int) - 1))).objs.size) (fun b o e=>kp b o (Nat.ne_of_lt (Heap.lt_size e)) (Heap.get?_push_of_some _ e)) (by rw [e1];exact Nat.le_succ _) ?_,rfl,q _ (I1.hok.fresh (a:=(s1.heap.push (revObj a ((its.toArray.size:Int) - 1))).objs.size) (by rw [e1];exact Nat.le_succ _))⟩
 exact⟨by rw [List.length_reverse];exact hz,acc.toList,c',QfM rv hacc,by simpa using hS⟩
noncomputable def Its(x:PySem.Str):It:=⟨fun i _=>i<x.cps.size,fun i H y H'=>H'=H/\∃c,x.cps[i]?=some c/\y=.str ⟨#[c]⟩,fun i _=>x.cps.size<=i⟩
theorem Qfy {P : Program} {w : World} {K : PySem.W.Frag} {tg : Expr} (x : PySem.Str) (tk : Tok) (it : Addr) (n : String) (hn : n = "str_ascii_iterator" \/ n = "str_iterator") : Turn P w K tg (Its x) [it] it (fun i h => h.IsStrIter it n x tk i) where
 mem:=by simp
 obj:=fun i h st b hb=>by
  have e:b=it:=by simpa using hb
  subst e;obtain⟨o,e,c,d⟩:=st
  exact⟨o,e,fun v z=>by rw [d]at z;cases z⟩
 keep:=fun i h h' st k=>by
  obtain⟨o,e,r⟩:=st
  exact⟨o,k it (by simp) o e,r⟩
 item:=by
  intro X hP hw hK hc i pins s σ H E I hf st hg;subst hP hw hK
  obtain⟨f0,f1,f2,f3,f4,f5⟩:=hf it (by simp)
  have hg:i<x.cps.size:=hg;have hx:x.cps[i]?=some x.cps[i]:=Array.getElem?_eq_getElem hg
  have fin:∀h',h'.IsStrIter it n x tk (i+1)->Heap.SameBut it s.heap h'->∃u,some (Value.str ⟨#[x.cps[i]]⟩ s.toks)=some u /\
    wpAny (model X.prog X.w) X.A (letOwnedTupleGo tg (.ref it) u) (fun _ s2=>∃y H',Inv X pins σ H' s2/\RelV y u/\(Its x).yld i H y H'/\s2.heap.IsStrIter it n x tk (i+1)/\∀b∈[it],H' b=none) E { s with heap:=h',toks:=s.toks+1 }:=by
   intro h' st' sb;have I1:Inv X pins σ H { s with heap:=h',toks:=s.toks+1 }:=I.turned (t':=s.toks+1) (fun b o hb e=>(sb.2 b hb).trans e) f0 f1 f3 f4 f5;obtain⟨o,e,c,d⟩:=id st'
   exact⟨_,rfl,Qbb (s:={ s with heap:=h',toks:=s.toks+1 }) e c d (by rcases hn with rfl | rfl<;>decide) ⟨.str ⟨#[x.cps[i]]⟩,H,I1,⟨_,rfl⟩,⟨rfl,_,hx,rfl⟩,st',fun b hb=>(hf b hb).1⟩⟩
  rcases hn with rfl | rfl
  ·exact wpAny_pyNext_ascii_item st hx fin
  ·exact wpAny_pyNext_wide_item st hx fin
 done:=by
  intro X hP hw hK hc i pins s σ H E I hf st hg;subst hP hw hK;have hg:x.cps.size<=i:=hg;have hx:x.cps[i]?=none:=Array.getElem?_eq_none hg
  obtain⟨f0,f1,f2,f3,f4,f5⟩:=hf it (by simp)
  rcases hn with rfl | rfl
  ·exact wpAny_pyNext_ascii_end (I.ok.hd hc) st hx fun h' eb=>⟨rfl,I.turned (t':=s.toks) (fun b o hb e=>eb b o hb e) f0 f1 f3 f4 f5⟩
  ·exact wpAny_pyNext_wide_end (I.ok.hd hc) st hx fun h' eb=>⟨rfl,I.turned (t':=s.toks) (fun b o hb e=>eb b o hb e) f0 f1 f3 f4 f5⟩
 self:=fun _ _ _ _ _ st h=>by
  rcases hn with rfl | rfl
  ·exact wpAny_pyIter_striter_ascii st h
  ·exact wpAny_pyIter_striter_wide st h
noncomputable def Qpm(te:TE):TI:=fun σ H R=>te σ H fun x H1=>∃t,x=.str t/\R (Its t) H1
theorem QkE{tg e:Expr}{te:TE}(he:PE X e te):PI X tg e (Qpm te):=by
 intro pins s σ H R I h;refine thn (he pins s σ H _ I h) fun u s1 ⟨x,H1,I1,rx,q1⟩=>?_;obtain⟨t,rfl,q⟩:=q1;obtain⟨tk,rfl⟩:=rx
 have fin : ∀ (n : String) (o : Obj), n = "str_ascii_iterator" \/ n = "str_iterator" -> o = { cls := .type n, data := .fields #[.str t tk, .int 0 0] } -> PIE X pins σ tg R (.ref s1.heap.objs.size) { s1 with heap := s1.heap.push o } := by
  intro n o hn ho;subst ho;refine⟨s1.heap.objs.size,[s1.heap.objs.size],_,_,H1,rfl,I1.kept (t':=s1.toks) fun b o e=>Heap.get?_push_of_some _ e,Qfy t tk _ n hn,⟨_,Heap.get?_push_size _ rfl,rfl,rfl⟩,fun b hb=>?_,q⟩
  have e:b=s1.heap.objs.size:=by simpa using hb
  subst e;exact I1.fpOk (Nat.le_refl _) (I1.hok.fresh (Nat.le_refl _))
 cases ha:t.cps.all (· < 128)
 ·exact wpAny_pyIter_wide ha (fin _ _ (.inr rfl) rfl)
 ·exact wpAny_pyIter_ascii ha (fin _ _ (.inl rfl) rfl)
end
end L2
namespace L2
open PySem PySem.Spec PyProof.Rows
section
variable {X:Cx}
noncomputable def Itc(lo c:Int)(n:Nat):It:=⟨fun i _=>i<n,fun i H x H'=>H'=H/\x=.int (lo+i*c),fun i _=>n<=i⟩
theorem QaO{P:Program}{w:World}{K:PySem.W.Frag}{tg:Expr}(it:Addr)(lo c:Int)(n:Nat):Turn P w K tg (Itc lo c n) [it] it (fun i h=>IsRangeIter h it (lo+(i:Nat)*c) ((n:Int) - (i:Nat)) c) where
 mem:=by simp
 obj:=fun i h st b hb=>by
  have e:b=it:=by simpa using hb
  subst e
  exact⟨_,st,fun v z=>by
   have z':Data.fields _=Data.cell v:=z
   cases z'⟩
 keep:=fun i h h' st k=>k it (by simp) _ st
 item:=by
  intro X hP hw hK hc i pins s σ H E I hf st hg;subst hP hw hK
  obtain⟨f0,f1,f2,f3,f4,f5⟩:=hf it (by simp)
  have W:=Walks.range (prog:=X.prog) (w:=X.w) (I.ok.hd hc) it lo c n;refine W.item i s _ _ hg st fun v h' tk hv st' kk=>?_;obtain⟨t,rfl⟩:=hv
  have I1:Inv X pins σ H { s with heap:=h',toks:=tk }:=I.turned (fun b o hb e=>kk b o (by simpa using hb) e) f0 f1 f3 f4 f5
  exact⟨_,rfl,Qbb (s:={ s with heap:=h',toks:=tk }) (n:="range_iterator") st' rfl rfl (by decide) ⟨.int (lo+i*c),H,I1,⟨t,rfl⟩,⟨rfl,rfl⟩,st',fun b hb=>(hf b hb).1⟩⟩
 done:=by
  intro X hP hw hK hc i pins s σ H E I hf st hg;subst hP hw hK
  obtain⟨f0,f1,f2,f3,f4,f5⟩:=hf it (by simp)
  exact wpAny_pyNext_range_end (I.ok.hd hc) st (by have:n<=i:=hg;omega) fun h' eb=>⟨rfl,I.turned (t':=s.toks) (fun b o hb e=>eb b o hb e) f0 f1 f3 f4 f5⟩
 self:=fun _ _ _ _ _ st h=>wpAny_pyIter_rangeiter st h
noncomputable def rngC(a b c:Int):Nat:=if a<b then((b-a-1) / c+1).toNat else 0
theorem QhY{a b c:Int}(h:0<c):Builtin.Range.rangeSize a b c=(rngC a b c:Nat):=by
 unfold rngC Builtin.Range.rangeSize;rw [if_pos (show c>0 from h)];split
 ·have:=Int.ediv_nonneg (a:=b-a-1) (b:=c) (by omega) (by omega)
  omega
 ·rfl
theorem Qdp{a b c:Int}(ha:-(2 ^ 60)<=a)(ha':a<2 ^ 60)(hb:-(2 ^ 60)<=b)(hb':b<2 ^ 60)(h0:0<c)(h1:c<2 ^ 60):Builtin.Range.small a b c=true:=by
 have e:Builtin.Range.rangeSize a b c=if a<b then(b-a-1) / c+1 else 0:=by
  unfold Builtin.Range.rangeSize;rw [if_pos (show c>0 from h0)]
 have q1:a<b->(b-a-1) / c<=b-a-1:=fun h=>Int.ediv_le_self _ (by omega)
 have q0:a<b->0<=(b-a-1) / c:=fun h=>Int.ediv_nonneg (by omega) (by omega)
 have q2:a<b->c*((b-a-1) / c)<=b-a-1:=fun h=>Int.mul_ediv_self_le (by omega)
 unfold Builtin.Range.small;rw [e];simp only [Builtin.Range.rangeFitsLong,Bool.and_eq_true,Bool.or_eq_true,decide_eq_true_eq,beq_iff_eq,show(c>0)from h0,if_true];generalize (b-a-1) / c=d at q0 q1 ⊢;clear q2;split
 ·rename_i h;have:=q0 h;have:=q1 h;omega
 ·omega
theorem Qdr{a b:Int}(ha:-(2 ^ 60)<=a)(ha':a<2 ^ 60)(hb:-(2 ^ 60)<=b)(hb':b<2 ^ 60):Builtin.Range.small a b (-1)=true/\Builtin.Range.rangeSize a b (-1)=((a-b).toNat:Nat):=by
 have e:Builtin.Range.rangeSize a b (-1)=((a-b).toNat:Nat):=by
  unfold Builtin.Range.rangeSize;simp;omega
 refine⟨?_,e⟩;unfold Builtin.Range.small;rw [e];simp only [Builtin.Range.rangeFitsLong,Bool.and_eq_true,Bool.or_eq_true,decide_eq_true_eq,beq_iff_eq];simp;omega
noncomputable def Qfa(i j c:Int)(n:Nat):Prop:=(0<c/\c<1073741824/\n=rngC i j c)\/(c=-1/\n=(i-j).toNat)
theorem QhN{i j c:Int}{n:Nat}(b1:-(2 ^ 60)<=i)(b2:i<2 ^ 60)(b3:-(2 ^ 60)<=j)(b4:j<2 ^ 60)(h:Qfa i j c n):Builtin.Range.small i j c=true/\Builtin.Range.rangeSize i j c=(n:Nat)/\c≠0/\-1073741824<c/\c<1073741824:=by
 rcases h with⟨c0,c1,rfl⟩ | ⟨rfl,rfl⟩
 ·exact⟨Qdp b1 b2 b3 b4 c0 (by omega),QhY c0,by omega,by omega,c1⟩
 ·obtain⟨z1,z2⟩:=Qdr b1 b2 b3 b4
  exact⟨z1,z2,by omega,by omega,by omega⟩
noncomputable def Qnw(ta:TA):TI:=fun σ H R=>ta σ H fun vs H1=>∃(i j c:Int) (n:Nat),vs=[.int i,.int j,.int c]/\(-(2 ^ 60)<=i/\i<2 ^ 60/\-(2 ^ 60)<=j/\j<2 ^ 60)/\Qfa i j c n/\R (Itc i c n) H1
theorem QdJ{tg a:Expr}{args:List Expr}{ta:TA}{p pos:Pos}(hg:Gl X "range") (hm:X.mg "range"=none) (ha:PA X (a::args) ta) (he:starEach (a::args) X.env=(false,eval a X.env)::starEach args X.env)
  (hpl:(backTo pos (starEach args X.env)).any (·.1)=false):PI X tg (.Call (.Name "range" p) (a::args) [] pos) (Qnw ta):=by
 intro pins s σ H R I h;refine Call_ (ZZ I hg hm boot_range (PyProof.Rows.callWith_type1 (thn (ha pos pins s σ H _ I h) fun us s1 ⟨vs,H1,I1,r1,q1⟩=>?_) he hpl));obtain⟨i,j,c,n,e,⟨b1,b2,b3,b4⟩,so,q⟩:=q1;obtain⟨sm,sz,cz,c0,c1⟩:=QhN b1 b2 b3 b4 so;subst e
 cases r1 with
 | cons r rr =>
  obtain⟨x,y,rfl,⟨t',rfl⟩,u',rfl⟩:=Vals.two rr;obtain⟨t,rfl⟩:=r
  refine call_range_3 (by omega) ?_ (.inl (PyProof.noPylong_small (by omega)))
  have I2:Inv X pins σ H1 { s1 with heap:=s1.heap.push { cls:=.type "range",data:=.fields #[.int i t,.int j t',.int c u'] },toks:=s1.toks }:=I1.kept fun b o e=>Heap.get?_push_of_some _ e;refine wpAny_pyIter_range (IsRange.new ..) sm ?_
  refine⟨(s1.heap.push { cls:=.type "range",data:=.fields #[.int i t,.int j t',.int c u'] }).objs.size,[(s1.heap.push { cls:=.type "range",data:=.fields #[.int i t,.int j t',.int c u'] }).objs.size],_,_,H1,rfl,
   I2.kept (t':=s1.toks) fun b o e=>Heap.get?_push_of_some _ e,QaO _ i c n,?_,fun b hb=>?_,q⟩
  ·show IsRangeIter _ _ (i+((0:Nat):Int)*c) (((n:Nat):Int) - ((0:Nat):Int)) c;rw [<-sz]
   have e1:i+((0:Nat):Int)*c=i:=by simp
   have e2:Builtin.Range.rangeSize i j c-((0:Nat):Int)=Builtin.Range.rangeSize i j c:=by simp
   rw [e1,e2];exact Heap.get?_push_size _ rfl
  ·have e:b=(s1.heap.push { cls:=.type "range",data:=.fields #[.int i t,.int j t',.int c u'] }).objs.size:=by simpa using hb
   subst e;exact I2.fpOk (Nat.le_refl _) (I2.hok.fresh (Nat.le_refl _))
end
end L2
namespace Iv
open PySem PySem.Spec PyProof.Rows L2
section
variable {X:Cx}{T:Tbl}{A:Adr}{C:Ctx}{cf:Cf}{m k:Nat}{α:List Addr}{hs:Hs}{H:Hp}{u:U}{v:V}{ρ:Rho}{σ:St}
noncomputable def WJ(A:Adr)(K:PySem.W.Frag)(α:List Addr)(J:It):Wk->Prop
 | .seqL u=>∃a,RU A α u (.ref a)/\J=Itl K a
 | .seqT u=>∃a,RU A α u (.ref a)/\J=Itt K a
 | .rng lo n=>J=Itr lo n
 | .zipB _ _ _ _=>False
 | .revL _ _=>False
 | .rngC lo c n=>J=Itc lo c n
 | .enmL u=>∃a,RU A α u (.ref a)/\J=Ite K a
 | .strW x=>J=Its ⟨x.toArray⟩
theorem WJ.mono{K:PySem.W.Frag}{J:It}{α':List Addr}{w:Wk}(p:∀(n:Nat) a,α[n]?=some a->α'[n]?=some a)(h:WJ A K α J w):WJ A K α' J w:=by
 cases w with
 | seqL u=>obtain⟨a,r,e⟩:=h;exact⟨a,r.mono p,e⟩
 | seqT u=>obtain⟨a,r,e⟩:=h;exact⟨a,r.mono p,e⟩
 | rng lo n=>exact h
 | zipB b c x y=>exact False.elim h
 | revL u n=>exact False.elim h
 | rngC lo c n=>exact h
 | enmL u=>obtain⟨a,r,e⟩:=h;exact⟨a,r.mono p,e⟩
 | strW x=>exact h
noncomputable def gT(K:PySem.W.Frag):Tg->TG
 | .name i=>Qbc i
 | .pair i j=>QoI K 2 (Qi0 (Qbc i) (Qi0 (Qbc j) QoJ))
theorem Qb7{J:It}{w:Wk}{i:Nat}(tx:Txt T A X.K X.mg)(R:Rep T A X.K α hs H)(W:WJ A X.K α J w)(h:itm T w i hs=some none):J.stop i H:=by
 cases w with
 | seqL u =>
  obtain⟨a,r,rfl⟩:=W;simp only [itm,Option.map_eq_some_iff,Option.map_eq_none_iff]at h;obtain⟨xs,e,h⟩:=h;obtain⟨a',vs,ea,rr,q⟩:=QO tx R e r;cases ea
  exact⟨vs,q,by rw [<-rr.length];exact List.getElem?_eq_none_iff.mp h⟩
 | seqT u =>
  obtain⟨a,r,rfl⟩:=W;simp only [itm,Option.map_eq_some_iff,Option.map_eq_none_iff]at h;obtain⟨xs,e,h⟩:=h;obtain⟨a',vs,ea,rr,q⟩:=Jv tx R e r;cases ea
  exact⟨vs,q,by rw [<-rr.length];exact List.getElem?_eq_none_iff.mp h⟩
 | rng lo n =>
  cases(show J=_ from W);simp only [itm,Option.some.injEq]at h;split at h
  ·cases h
  ·rename_i l;show n<=i;omega
 | zipB p q x y=>exact False.elim W
 | revL u n=>exact False.elim W
 | rngC lo c n =>
  cases(show J=_ from W);simp only [itm,Option.some.injEq]at h;split at h
  ·cases h
  ·rename_i l;show n<=i;omega
 | enmL u =>
  obtain⟨a,r,rfl⟩:=W;simp only [itm,Option.map_eq_some_iff,Option.map_eq_none_iff]at h;obtain⟨xs,e,h⟩:=h;obtain⟨a',vs,ea,rr,q⟩:=QO tx R e r;cases ea
  exact⟨vs,q,by rw [<-rr.length];exact List.getElem?_eq_none_iff.mp h⟩
 | strW x =>
  cases(show J=_ from W);simp only [itm,Option.some.injEq,Option.map_eq_none_iff]at h;show(x.toArray).size<=i;rw [List.size_toArray];exact List.getElem?_eq_none_iff.mp h
theorem Z8{t:Tg}{ρ':Rho}{Q:St->Hp->Prop}(R:Rep T A X.K α hs H)(rs:RS A α ρ σ)(r:RU A α u v)(h:tgt t (.one u) ρ hs=some ρ')(k:∀σ2,RS A α ρ' σ2->Q σ2 H):gT X.K t v σ H Q:=by
 cases t with
 | name i=>cases h;exact k _ (rs.set i r)
 | pair i j =>
  cases u with
  | ref n =>
   obtain⟨a,ha,rfl⟩:=r;simp only [tgt]at h;split at h
   case h_2=>cases h
   rename_i x y e;cases h;obtain⟨vs,q,rr⟩:=R.h.ob n a _ ha e;obtain⟨v1,ws,rfl,r1,rr⟩:=Ql rr;obtain⟨v2,ws,rfl,r2,rr⟩:=Ql rr;cases Qx rr;exact⟨a,[v1,v2],rfl,SqT.of q,rfl,v1,[v2],rfl,v2,[],rfl,rfl,k _ ((rs.set i r1).set j r2)⟩
  | _=>simp [tgt]at h
theorem Qel{J:It}{w:Wk}{i:Nat}{x:Im}{t:Tg}{ρ':Rho}(tx:Txt T A X.K X.mg)(R:Rep T A X.K α hs H)(W:WJ A X.K α J w)(rs:RS A α ρ σ)(h:itm T w i hs=some (some x))(ht:tgt t x ρ hs=some ρ'):
  J.go i H/\∀v H' (Q:St->Hp->Prop),J.yld i H v H'->(∀σ2,RS A α ρ' σ2->Rep T A X.K α hs H'->Ext α α H H'->Q σ2 H')->gT X.K t v σ H' Q:=by
 cases w with
 | seqL u =>
  obtain⟨a,r,rfl⟩:=W;simp only [itm,Option.map_eq_some_iff]at h;obtain⟨xs,e,y,h,rfl⟩:=h;obtain⟨a',vs,ea,rr,q⟩:=QO tx R e r;cases ea;obtain⟨v1,f1,g1⟩:=rr.get h;refine⟨⟨vs,v1,q,f1⟩,?_⟩;rintro v H' Q ⟨rfl,k1⟩ k;have n1:v=v1:=Option.some.inj ((k1 vs q).symm.trans f1);subst n1;exact Z8 R rs g1 ht fun σ2 r2=>k σ2 r2 R Ext.refl
 | seqT u =>
  obtain⟨a,r,rfl⟩:=W;simp only [itm,Option.map_eq_some_iff]at h;obtain⟨xs,e,y,h,rfl⟩:=h;obtain⟨a',vs,ea,rr,q⟩:=Jv tx R e r;cases ea;obtain⟨v1,f1,g1⟩:=rr.get h;refine⟨⟨vs,v1,q,f1⟩,?_⟩;rintro v H' Q ⟨rfl,k1⟩ k;have n1:v=v1:=Option.some.inj ((k1 vs q).symm.trans f1);subst n1;exact Z8 R rs g1 ht fun σ2 r2=>k σ2 r2 R Ext.refl
 | rng lo n =>
  cases(show J=_ from W);simp only [itm,Option.some.injEq]at h;split at h
  case isFalse=>cases h
  rename_i l;cases h;refine⟨l,?_⟩;rintro v H' Q ⟨rfl,rfl⟩ k;exact Z8 (u:=.int (lo+i) 0) R rs ⟨_,rfl,Cg.refl _ _⟩ ht fun σ2 r2=>k σ2 r2 R Ext.refl
 | zipB p q x1 y1=>exact False.elim W
 | revL u n=>exact False.elim W
 | rngC lo c n =>
  cases(show J=_ from W);simp only [itm,Option.some.injEq]at h;split at h
  case isFalse=>cases h
  rename_i l;cases h;refine⟨l,?_⟩;rintro v H' Q ⟨rfl,rfl⟩ k;exact Z8 (u:=.int (lo+i*c) 0) R rs ⟨_,rfl,Cg.refl _ _⟩ ht fun σ2 r2=>k σ2 r2 R Ext.refl
 | enmL u =>
  obtain⟨a,r,rfl⟩:=W;simp only [itm,Option.map_eq_some_iff]at h;obtain⟨xs,e,y,h,rfl⟩:=h;obtain⟨a',vs,ea,rr,q⟩:=QO tx R e r;cases ea;obtain⟨v1,f1,g1⟩:=rr.get h;refine⟨⟨vs,v1,q,f1⟩,?_⟩;rintro v H' Q ⟨p,w1,hp,rfl,rfl,k1⟩ k;have n1:w1=v1:=Option.some.inj ((k1 vs q).symm.trans f1);subst n1
  have ne:∀b y,H b=some y->b≠p:=fun b y e z=>by rw [z,hp]at e;cases e
  have R':Rep T A X.K α hs (upd H p (.tup [.int i,w1])):=⟨⟨R.h.len,R.h.nd_keep fun b x _ e=>by rw [Qe (ne _ _ e)];exact e,fun n a o e1 e2=>RO.keep (R.h.ob n a o e1 e2) (fun _ _ e=>e) fun y e=>by rw [Qe (ne _ _ e)];exact e⟩,R.s.keep fun y e _=>by rw [Qe (ne _ _ e)];exact e⟩
  have E':Ext α α H (upd H p (.tup [.int i,w1])):=⟨fun _ _ e=>e,fun n a e l=>by have:=getElem?_lt e;omega,fun b o e _=>by rw [Qe (ne _ _ e)];exact e,fun b o kv e=>by rw [Qe (ne _ _ e)];exact e,fun b o e=>⟨o,by rw [Qe (ne _ _ e)];exact e,fun _=>Iff.rfl⟩⟩
  cases t with
  | name i=>simp [tgt]at ht
  | pair i' j' =>
   cases ht;have g0:RU A α (.int i 0) (.int i):=⟨_,rfl,Cg.refl _ _⟩;exact⟨p,[.int i,w1],rfl,SqT.of Qf,rfl,.int i,[w1],rfl,w1,[],rfl,rfl,k _ ((rs.set i' g0).set j' g1) R' E'⟩
 | strW y =>
  cases(show J=_ from W);simp only [itm,Option.some.injEq,Option.map_eq_some_iff]at h;obtain⟨c,hc,rfl⟩:=h
  refine⟨by show i<y.toArray.size;rw [List.size_toArray];exact(List.getElem?_eq_some_iff.mp hc).1,?_⟩
  rintro v H' Q ⟨rfl,c',hc',rfl⟩ k
  have e:c'=c:=by
   have:y[i]?=some c':=by simpa using hc'
   rw [hc]at this;exact(Option.some.inj this).symm
  subst e;exact Z8 (u:=.str [c']) R rs rfl ht fun σ2 r2=>k σ2 r2 R Ext.refl
noncomputable def TIW(T:Tbl)(A:Adr)(K:PySem.W.Frag)(f:Rho->Hs->Option (Wk×Hs)):L2.TI:=fun σ H R=>∃α ρ hs w hs',RS A α ρ σ/\Rep T A K α hs H/\f ρ hs=some (w,hs') /\
 ∀α' J H',Ext α α' H H'->Rep T A K α' hs' H'->WJ A K α' J w->R J H'
theorem Qfd{tg it:Expr}{t t':L2.TI}(h:PI X tg it t)(i:∀σ H R,t' σ H R->t σ H R):PI X tg it t':=fun pins s σ H R I q=>h pins s σ H R I (i σ H R q)
theorem QoN{tg it:Expr}{t t':L2.TI}(h:PI X tg it t)(h':PI X tg it t'):PI X tg it (fun σ H R=>t σ H R\/t' σ H R):=fun pins s σ H R I q=>q.elim (h pins s σ H R I) (h' pins s σ H R I)
theorem QkF{tg it:Expr}{ir:E}{d:Nat}(tx:Txt T A X.K X.mg)(h:PE X it (Iv.TI T A X.K (ev T cf d ir))):PI X tg it (TIW T A X.K (fun ρ hs=>Ze T (ev T cf d) ρ (.seq ir) hs)):=by
 refine Qfd (QoN (QoN (Qii h) (QkD h)) (QkE h)) ?_;rintro σ H R ⟨α,ρ,hs,w,hs',rs,Rp,e,q⟩;simp only [Ze]at e;obtain⟨u,h1,e1,e⟩:=Qd e;simp only [Option.map_eq_some_iff]at e;obtain⟨w',e2,e⟩:=e;cases e;unfold wkS at e2;split at e2
 ·rename_i xs el;cases e2;refine .inl (.inl (TI.run rs Rp e1 fun α1 x H1 E1 R1 r1 rs1=>?_));obtain⟨a,vs,rfl,rr,sq⟩:=QO tx R1 el r1;exact⟨a,rfl,⟨vs,sq⟩,q α1 _ H1 E1 R1 ⟨a,r1,rfl⟩⟩
 ·split at e2
  ·rename_i xs el;cases e2;refine .inl (.inr (TI.run rs Rp e1 fun α1 x H1 E1 R1 r1 rs1=>?_));obtain⟨a,vs,rfl,rr,sq⟩:=Jv tx R1 el r1;exact⟨a,rfl,⟨vs,sq⟩,q α1 _ H1 E1 R1 ⟨a,r1,rfl⟩⟩
  ·split at e2
   ·cases e2;refine .inr (TI.run rs Rp e1 fun α1 x H1 E1 R1 r1 rs1=>?_);exact⟨_,r1,q α1 _ H1 E1 R1 rfl⟩
   ·cases e2
theorem QaR{i:Int}(h:Qp (i*4)=true):-(2 ^ 62)<=i/\i<2 ^ 62:=by
 obtain⟨h1,h2⟩:=QW h;constructor<;>omega
theorem QkG{tg a:Expr}{a':E}{p q:Pos}{d:Nat}(hg:Gl X "range") (hm:X.mg "range"=none) (hns:∀x p,a≠.Starred x p) (h:PE X a (Iv.TI T A X.K (ev T cf d a'))):PI X tg (.Call (.Name "range" p) [a] [] q) (TIW T A X.K (fun ρ hs=>Ze T (ev T cf d) ρ (.rng a') hs)):=by
 refine Qfd (QdL hg hm (Z9 h QbQ (Qt hns)) (Qt hns)) ?_;rintro σ H R ⟨α,ρ,hs,w,hs',rs,Rp,e,q⟩;simp only [Ze]at e;obtain⟨u,h1,e1,e⟩:=Qd e;split at e
 case h_2=>cases e
 split at e
 case isFalse=>cases e
 rename_i i c;cases e;refine TI.run rs Rp e1 fun α1 x H1 E1 R1 r1 rs1=>?_;obtain⟨j,rfl,cg⟩:=r1;cases cg.exact;obtain⟨b1,b2⟩:=QaR c;exact⟨_,rfl,b1,b2,q α1 _ H1 E1 R1 rfl⟩
theorem Qih{tg a b:Expr}{a' b':E}{p q:Pos}{d:Nat}(hg:Gl X "range") (hm:X.mg "range"=none) (hna:∀x p,a≠.Starred x p) (hnb:∀x p,b≠.Starred x p) (ha:PE X a (Iv.TI T A X.K (ev T cf d a'))) (hb:PE X b (Iv.TI T A X.K (ev T cf d b'))):PI X tg (.Call (.Name "range" p) [a,b] [] q) (TIW T A X.K (fun ρ hs=>Ze T (ev T cf d) ρ (.rng2 a' b') hs)):=by
 have s2:starEach [b] X.env=[(false,eval b X.env)]:=Qt hnb
 have s1:starEach [a,b] X.env=[(false,eval a X.env),(false,eval b X.env)]:=by rw [Qt hna,s2]
 refine Qfd (QdK hg hm (Z9 ha (Z9 hb QbQ (Qt hnb)) (Qt hna)) s1 s2) ?_;rintro σ H R ⟨α,ρ,hs,w,hs',rs,Rp,e,q⟩;simp only [Ze]at e;obtain⟨u,h1,e1,e⟩:=Qd e;obtain⟨u2,h2,e2,e⟩:=Qd e;split at e
 case h_2=>cases e
 split at e
 case isFalse=>cases e
 rename_i i j c;cases e;rw [Bool.and_eq_true]at c;refine TI.run rs Rp e1 fun α1 x H1 E1 R1 r1 rs1=>?_;refine TI.run rs1 R1 e2 fun α2 y H2 E2 R2 r2 rs2=>?_;obtain⟨i',rfl,cg⟩:=r1;cases cg.exact;obtain⟨j',rfl,cg⟩:=r2;cases cg.exact;obtain⟨b1,b2⟩:=QaR c.1;obtain⟨b3,b4⟩:=QaR c.2;exact⟨_,_,rfl,⟨b1,b2,b3,b4⟩,q α2 _ H2 (E1.trans E2 R2.h) R2 rfl⟩
theorem Qig{tg a:Expr}{args:List Expr}{es:List E}{p q:Pos}{d:Nat}(hg:Gl X "range") (hm:X.mg "range"=none) (hns:QaK (a::args)) (h:PA X (a::args) (TIA T A X.K (fun ρ hs=>evs (ev T cf d) ρ es hs))):
  PI X tg (.Call (.Name "range" p) (a::args) [] q) (TIW T A X.K (fun ρ hs=>Ze T (ev T cf d) ρ (.rngA es) hs)):=by
 refine Qfd (QdJ hg hm h (Qt (hns a (List.mem_cons_self ..))) (Zy fun z hz=>hns z (List.mem_cons_of_mem _ hz))) ?_;rintro σ H R ⟨α,ρ,hs,w,hs',rs,Rp,e,q⟩;simp only [Ze]at e;obtain⟨us,h1,e1,e⟩:=Qd e;split at e
 case h_2=>cases e
 rename_i i j c
 obtain⟨n,so,ew,c1,c2⟩:∃n,Qfa i j c n/\some (Wk.rngC i c n,h1)=some (w,hs')/\Qp (i*16)=true/\Qp (j*16)=true:=by
  split at e
  ·rename_i cc;simp only [Bool.and_eq_true,decide_eq_true_eq]at cc;obtain⟨⟨⟨c1,c2⟩,c3⟩,c4⟩:=cc;exact⟨_,.inl ⟨c3,c4,rfl⟩,e,c1,c2⟩
  ·split at e
   ·rename_i cc;simp only [Bool.and_eq_true,decide_eq_true_eq]at cc;obtain⟨⟨c1,c2⟩,rfl⟩:=cc;exact⟨_,.inr ⟨rfl,rfl⟩,e,c1,c2⟩
   ·cases e
 cases ew;obtain⟨d1,d2⟩:=QW c1;obtain⟨d3,d4⟩:=QW c2;refine TIA.run rs Rp e1 fun α1 vs H1 E1 R1 r1 rs1=>?_;obtain⟨v1,ws,rfl,x1,rr⟩:=Ql r1;obtain⟨v2,ws,rfl,x2,rr⟩:=Ql rr;obtain⟨v3,ws,rfl,x3,rr⟩:=Ql rr;cases Qx rr;cases Q0 x1;cases Q0 x2;cases Q0 x3
 exact⟨i,j,c,n,rfl,⟨by omega,by omega,by omega,by omega⟩,so,q α1 _ H1 E1 R1 rfl⟩
theorem Qil{elts:List Expr}{kt:Nat}{pt:Pos}{a:Expr}{a':E}{p q:Pos}{d:Nat}(tx:Txt T A X.K X.mg)(hg:Gl X "enumerate") (hm:X.mg "enumerate"=none) (hns:∀x p,a≠.Starred x p) (h:PE X a (Iv.TI T A X.K (ev T cf d a'))):
  PI X (.Tuple elts kt pt) (.Call (.Name "enumerate" p) [a] [] q) (TIW T A X.K (fun ρ hs=>Ze T (ev T cf d) ρ (.enm a') hs)):=by
 refine Qfd (Qik hg hm h (Qt hns)) ?_;rintro σ H R ⟨α,ρ,hs,w,hs',rs,Rp,e,q⟩;simp only [Ze]at e;obtain⟨u,h1,e1,e⟩:=Qd e;split at e
 case h_2=>cases e
 rename_i xs el;cases e;refine TI.run rs Rp e1 fun α1 x H1 E1 R1 r1 rs1=>?_;obtain⟨a,vs,rfl,rr,sq⟩:=QO tx R1 el r1;exact⟨a,vs,rfl,sq,q α1 _ H1 E1 R1 ⟨a,r1,rfl⟩⟩
theorem Rep.aside{D:Addr}{ho:HO}(R:Rep T A X.K α hs H)(hn:D∉α)(hs':∀o u,H D≠some (.frz o u)):Rep T A X.K α hs (upd H D ho):=
 ⟨⟨R.h.len,R.h.nd_keep fun b x hb e=>by rw [Qe (fun(z:b=D)=>hn (z▸hb))];exact e,fun n a o e1 e2=>RO.keep (R.h.ob n a o e1 e2) (fun _ _ e=>e) fun y e=>by
   have ne:a≠D:=fun z=>hn (z▸List.mem_of_getElem? e1)
   rw [Qe ne];exact e⟩,
  R.s.keep fun y e z=>by
   obtain⟨ob,u,rfl⟩:=z;have ne:A.s≠D:=fun z=>hs' ob _ (z▸e);rw [Qe ne]
   exact e⟩
theorem Rep.adopt{D:Addr}{us:List U}{ys:List V}(R:Rep T A X.K α hs H)(hn:D∉α)(hD:H D=some (.lst ys))(r:RUs A α us ys):Rep T A X.K (α++[D]) (hs++[.lst us]) H:=by
 refine⟨⟨by simp [R.h.len],QdX R.h.nd hn,fun n a o e1 e2=>?_⟩,R.s⟩
 rcases Qv e1 with q | ⟨q1,q2⟩
 ·rcases Qv e2 with z | ⟨z,_⟩
  ·exact RO.keep (R.h.ob n a o q z) Qu fun x e=>e
  ·have:=getElem?_lt q;rw [R.h.len]at this;omega
 ·subst q2
  rcases Qv e2 with z | ⟨_,z⟩
  ·have:=(List.getElem?_eq_some_iff.mp z).1;rw [<-R.h.len]at this;omega
  ·subst z;exact⟨ys,hD,RUs.mono Qu r⟩
theorem RS.pad{p:Rho}{os:St}(rs:RS A α ρ σ)(hl:p.length=os.length)(hp:∀x∈p,x=none):RS A α (ρ++p) (σ++os):=by
 refine⟨by simp [rs.len,hl],fun i u e=>?_⟩
 by_cases l:i < ρ.length
 ·rw [List.getElem?_append_left l]at e;obtain⟨v,h1,h2⟩:=rs.val i u e
  exact⟨v,by rw [List.getElem?_append_left (List.getElem?_eq_some_iff.mp h1).1];exact h1,h2⟩
 ·rw [List.getElem?_append_right (by omega)]at e
  cases hp _ (List.mem_of_getElem? e)
noncomputable def nN(b:Bool):Nat:=if b then 2 else 1
theorem QbP(b:Bool):(QcY b).length=nN b:=by cases b<;>rfl
theorem Qah(b:Bool):∀x∈QcY b,x=none:=by cases b<;>simp [QcY]
theorem QiZ{K:PySem.W.Frag}{b:Bool}{os:St}{Q:St->Hp->Prop}(hl:os.length=nN b)(h:gT K (tgN b σ.length) v (σ++os) H Q):
  gT K (tgN b σ.length) v (σ++os) H fun σ2 H2=>(∃os':St,os'.length=nN b/\σ2=σ++os')/\Q σ2 H2:=by
 cases b with
 | false =>
  have h:Q ((σ++os).set σ.length (some v)) H:=h
  exact⟨⟨os.set 0 (some v),by simp [hl],by rw [List.set_append_right _ _ (Nat.le_refl _),Nat.sub_self]⟩,h⟩
 | true =>
  obtain⟨a,xs,rfl,sq,len,v1,r1,rfl,v2,r2,rfl,e,q⟩:=h
  refine⟨a,_,rfl,sq,len,v1,_,rfl,v2,_,rfl,e,⟨(os.set 0 (some v1)).set 1 (some v2),by simp [hl],?_⟩,q⟩
  rw [List.set_append_right _ _ (Nat.le_refl _),Nat.sub_self,List.set_append_right _ _ (Nat.le_succ _)]
  congr 1
  congr 1
  omega
theorem Qg1{α4:List Addr}{D:Addr}{ho:HO}{H4:Hp}(E4:Ext α α4 H H4)(nD:D∉α)(d3:H D=some ho)(hnt:∀vs,ho≠.tup vs:=by intro _ z;cases z):D∉α4:=fun z=>by
 obtain⟨n,hn⟩:=List.getElem?_of_mem z;by_cases l:n < α.length
 ·have e1:α[n]?=some α[n]:=List.getElem?_eq_getElem l;have e2:=E4.pre _ _ e1;rw [hn]at e2;cases e2;exact nD (List.getElem_mem l)
 ·rcases E4.new n D hn (by omega)with q | ⟨vs,q⟩
  ·rw [d3]at q;cases q
  ·rw [d3]at q;exact hnt vs (Option.some.inj q)
theorem QeT{src:Src}{b:Bool}{t:Option E}{el:E}{d:Nat}{σ:St}{H:Hp}{Q:VK}(tx:Txt T A X.K X.mg)(hl:σ.length=X.N.length)(h:Iv.TI T A X.K (ev T cf (d+1) (.comp src b t el)) σ H Q):
  QfC (TIW T A X.K (fun ρ hs=>Ze T (ev T cf d) ρ src hs)) (nN b) (gT X.K (tgN b X.N.length)) (TIT T A X.K (Z4 (evT T cf d) t)) (Iv.TI T A X.K (ev T cf d el)) σ H Q:=by
 rw [<-hl];obtain⟨α,ρ,hs,u,hs',rs,R,e,q⟩:=h;simp only [ev]at e;obtain⟨w,h1,e1,e⟩:=Qd e;obtain⟨us,h2,e2,e⟩:=Qd e;cases e;refine⟨α,ρ,hs,w,h1,rs,R,e1,fun α1 J H1 E1 R1 W1 D hD=>?_⟩;have rs1:=rs.mono E1.pre;refine⟨fun i m ys H2=>∃αc hc acc,RS A αc ρ σ/\Rep T A X.K αc hc H2/\D∉αc/\H2 D=some (.lst ys)/\RUs A αc acc ys/\Ext α1 αc H1 H2/\WJ A X.K αc J w/\QQ T (ev T cf d) (Z4 (evT T cf d) t) w b el ρ m i acc hc=some (us,h2),⟨QZ T w h1,α1,h1,[],rs1,?_,R1.h.notIn hD,Qf,.nil,?_,W1,e2⟩,?_⟩
 ·exact R1.aside (R1.h.notIn hD) fun o u z=>by rw [hD]at z;cases z
 ·exact⟨fun _ _ e=>e,fun n a e l=>by have:=getElem?_lt e;omega,fun b o e _=>by rw [Qe (fun z=>by rw [z,hD]at e;cases e)];exact e,fun b o kv e=>by rw [Qe (fun z=>by rw [z,hD]at e;cases e)];exact e,fun b o e=>⟨o,by rw [Qe (fun z=>by rw [z,hD]at e;cases e)];exact e,fun _=>Iff.rfl⟩⟩
 rintro i m ys H2 ⟨αc,hc,acc,rsc,Rc,nD,hDl,rr,Ec,Wc,ec⟩;refine⟨hDl,?_⟩
 cases m with
 | zero=>cases ec
 | succ m =>
  simp only [QQ]at ec;split at ec
  ·cases ec
  ·rename_i ei;cases ec;refine .inl ⟨Qb7 tx Rc Wc ei,?_⟩;have Ra:=Rc.adopt nD hDl rr
   have Ea:Ext α1 (αc++[D]) H1 H2:=⟨fun n a e=>Qu n a (Ec.pre n a e),fun n a e l=>by
    rcases Qv e with z | ⟨_,z⟩
    ·exact Ec.new n a z l
    ·rw [z];exact .inl hD,Ec.keep,Ec.fz,Ec.tr⟩
   exact q _ _ _ (E1.trans Ea Ra.h) Ra ⟨D,by rw [<-Rc.h.len];exact QG,rfl⟩
  ·rename_i x ei;split at ec
   ·cases ec
   rename_i ρ' et;split at ec
   case isFalse=>cases ec
   rename_i small;obtain⟨c,h3,e3,ec⟩:=Qd ec
   have go:J.go i H2:=(Qel tx Rc Wc (rsc.pad (os:=List.replicate (nN b) none) (by rw [QbP];simp) (Qah b)) ei et).1
   refine .inr ⟨go,?_,fun v H3 os lo yl=>?_⟩
   ·have:=rr.length;rw [sizeLine_eq];omega
   have rsn:RS A αc (ρ++QcY b) (σ++os):=rsc.pad (by rw [QbP,lo]) (Qah b)
   obtain⟨_,stp⟩:=Qel tx Rc Wc rsn ei et;rw [rs.len]at stp;refine QiZ lo (stp v H3 _ yl fun σ2 rs2 R3 E3=>?_);have d3:H3 D=some (.lst ys):=E3.keep D _ hDl nD;refine TIT.run rs2 R3 e3 fun α4 H4 E4 R4 rs4=>?_;have d4:H4 D=some (.lst ys):=E4.keep D _ d3 nD;have nD4:=Qg1 E4 nD d3;have Et4:=(Ec.trans E3 R3.h).trans E4 R4.h
   cases c with
   | false =>
    rw [if_neg Bool.false_ne_true]at ec ⊢;exact⟨m,Nat.lt_succ_self _,α4,h3,acc,rsc.mono E4.pre,R4,nD4,d4,RUs.mono E4.pre rr,Et4,Wc.mono E4.pre,ec⟩
   | true =>
    rw [if_pos rfl]at ec ⊢;obtain⟨u',h5,e5,ec⟩:=Qd ec;refine TI.run rs4 R4 e5 fun α5 y H5 E5 R5 r5 rs5=>?_;have d5:H5 D=some (.lst ys):=E5.keep D _ d4 nD4;have nD5:=Qg1 E5 nD4 d4
    refine⟨d5,m,Nat.lt_succ_self _,α5,h5,acc++[u'],(rsc.mono E4.pre).mono E5.pre,R5.aside nD5 (fun o u z=>by rw [d5]at z;cases z),nD5,Qf,?_,?_,(Wc.mono E4.pre).mono E5.pre,ec⟩
    ·exact Paired.snoc (RUs.mono E5.pre (RUs.mono E4.pre rr)) r5
    ·have Et:=Et4.trans E5 R5.h
     exact⟨Et.pre,Et.new,fun b o e hb=>by rw [Qe (fun z=>by rw [z,hD]at e;cases e)];exact Et.keep b o e hb,fun b o kv e=>by rw [Qe (fun z=>by rw [z,hD]at e;cases e)];exact Et.fz b o kv e,fun b o e=>by
      obtain⟨o',q1,q2⟩:=Et.tr b o e
      exact⟨o',by rw [Qe (fun z=>by rw [z,hD]at e;cases e)];exact q1,q2⟩⟩
end
end Iv
namespace Iv
open PySem PySem.Spec PyProof.Rows L2
section
variable {X:Cx}{T:Tbl}{A:Adr}{C:Ctx}{cf:Cf}{m k:Nat}
theorem QmJ{a:Expr}{a':E}{j d:Nat}{p1 p3 p2 pos:Pos}(tx:Txt T A X.K X.mg)(h:PE X a (TI T A X.K (ev T cf d a'))):
  PE X (.Subscript a (.Slice none none (some (.UnaryOp .USub (.Constant (.int 1) j p1) p3)) p2) pos) (TI T A X.K (ev T cf (d+1) (.rev a'))):=by
 refine QR (QkL h) ?_;rintro σ H Q ⟨α,ρ,hs,u,hs',rs,R,e,q⟩;simp only [ev]at e;obtain⟨u1,h1,e1,e⟩:=Qd e;split at e
 case h_2=>cases e
 rename_i xs el;cases e;refine TI.run rs R e1 fun α1 x H1 E1 R1 r1 rs1=>?_;obtain⟨b,vs,rfl,rr,sq⟩:=QO tx R1 el r1;refine⟨b,vs,rfl,sq,fun p hp=>?_⟩;obtain⟨R2,E2⟩:=R1.new (p:=p) (o:=.lst xs.reverse) (ho:=.lst vs.reverse) hp ⟨_,Qf,RUs.mono Qu rr.reverse⟩
 exact q _ _ _ (E1.trans E2 R2.h) R2 ⟨p,by rw [<-R1.h.len];exact QG,rfl⟩
theorem Qkg{f:Str}{args:List Expr}{a:Expr}{a':E}{p pos:Pos}{d:Nat}(g:GX T A C X)(hg:Y8 C f=true)(hx:¬C.bl.contains f=false)(hra:JB C f args=some a)(h:PE X a (TI T A X.K (ev T cf d a')))(hns:∀x p,a≠.Starred x p):
  PE X (.Call (.Name f p) args [] pos) (TI T A X.K (ev T cf (d+1) (.rev a'))):=by
 unfold JB at hra;split at hra
 case isFalse=>cases hra
 rename_i ef;subst ef;split at hra
 case h_2=>cases hra
 rename_i r pr a0 p2;split at hra
 case isFalse=>cases hra
 rename_i c;cases hra;simp only [Bool.and_eq_true,decide_eq_true_eq]at c;obtain⟨⟨⟨c1,c2⟩,c3⟩,c4⟩:=c
 have e1:r=Str.ofString "reversed":=by simpa using c1
 subst e1
 refine QR (Qim g.calm (Zf g hg) (g.blt _ hx) (Zf g c2) (g.blt _ (by rw [c4];simp)) h (Qt hns)) ?_
 rintro σ H Q ⟨α,ρ,hs,u,hs',rs,R,e,q⟩;simp only [ev]at e;obtain⟨u1,h1,e1,e⟩:=Qd e;split at e
 case h_2=>cases e
 rename_i xs el;cases e;refine TI.run rs R e1 fun α1 x H1 E1 R1 r1 rs1=>?_;obtain⟨b,vs,rfl,rr,sq⟩:=QO g.txt R1 el r1;refine⟨b,vs,rfl,sq,fun p hp=>?_⟩;obtain⟨R2,E2⟩:=R1.new (p:=p) (o:=.lst xs.reverse) (ho:=.lst vs.reverse) hp ⟨_,Qf,RUs.mono Qu rr.reverse⟩
 exact q _ _ _ (E1.trans E2 R2.h) R2 ⟨p,by rw [<-R1.h.len];exact QG,rfl⟩
theorem Qka{tg it:Expr}{src:Src}{d:Nat}(g:GX T A C X)(S:Snd T A C X cf m)(h:compSrc (m+1) C it=some src)(hz:Qma src=true->∃elts kt pt,tg=.Tuple elts kt pt):PI X tg it (TIW T A X.K (fun ρ hs=>Ze T (ev T cf d) ρ src hs)):=by
 have seq:∀{it:Expr} {src:Src},(Qh m C it).map Src.seq=some src->PI X tg it (TIW T A X.K (fun ρ hs=>Ze T (ev T cf d) ρ src hs)):=by
  intro it src h;simp only [Option.map_eq_some_iff]at h;obtain⟨ir,hi,rfl⟩:=h;exact QkF g.txt (S.e d it ir hi)
 simp only [compSrc]at h;split at h
 ·rename_i f p args q;split at h
  case isFalse=>cases h
  rename_i hg;split at h
  ·exact seq h
  ·split at h
   ·cases h
   rename_i hx;split at h
   ·rename_i e;subst e;split at h
    ·rename_i a;simp only [Option.map_eq_some_iff]at h;obtain⟨a',ha,rfl⟩:=h;exact QkG (Zf g hg) (g.blt _ hx) (QD ha) (S.e d a a' ha)
    ·rename_i a b;simp only [Option.bind_eq_some_iff,Option.map_eq_some_iff]at h;obtain⟨a',ha,b',hb,rfl⟩:=h;exact Qih (Zf g hg) (g.blt _ hx) (QD ha) (QD hb) (S.e d a a' ha) (S.e d b b' hb)
    ·rename_i a b c;simp only [Option.map_eq_some_iff]at h;obtain⟨es,ha,rfl⟩:=h;exact Qig (Zf g hg) (g.blt _ hx) (QE ha) (S.a d _ es ha)
    ·cases h
   ·split at h
    ·rename_i e;subst e;split at h
     ·rename_i a;simp only [Option.map_eq_some_iff]at h;obtain⟨a',ha,rfl⟩:=h;obtain⟨elts,kt,pt,rfl⟩:=hz rfl;exact Qil g.txt (Zf g hg) (g.blt _ hx) (QD ha) (S.e d a a' ha)
     ·cases h
    ·exact seq h
 ·exact seq h
theorem Qam{it:Expr}{src:Src}{env:Env}(h:compSrc m C it=some src):∀x,foldedSetIterable it env x=pure x:=by
 intro x
 cases it<;>first | rfl | skip
 cases m with
 | zero=>simp [compSrc]at h
 | succ m =>
  simp only [compSrc,Option.map_eq_some_iff]at h;obtain⟨_,h,_⟩:=h
  cases m<;>first | exact nomatch (show(none:Option E)=some _ from h) | simp [Qh]at h
theorem Z6{xs:List Str}{scope:Scope}(g:GX T A C X)(h:Jp C xs scope=true):CompOk X xs scope/\∀C0 s H fp,GX T A (C.inner xs scope) (X.block xs scope C0 s H fp):=by
 unfold Jp at h;simp only [Bool.and_eq_true,beq_iff_eq,List.all_eq_true,Bool.not_eq_true',decide_eq_true_eq]at h;obtain⟨⟨⟨⟨h1,h2⟩,hd⟩,h3⟩,h5⟩:=h
 have nd:(".0":Str)∉X.N:=fun z=>by
  rw [g.N]at z;rw [List.contains_iff_mem.mpr z]at h5;cases h5
 refine⟨⟨h1,fun x hx=>(h2 x hx).1,fun y hy=>?_,fun x hx=>(h2 x hx).2,(List.nodup_append.mp hd).2.1,nd⟩,fun C0 s H fp=>?_⟩
 ·have:=h3 y hy;obtain⟨n,kd⟩:=y
  cases kd with
  | «local» =>
   simp only [Bool.and_eq_true,Bool.or_eq_true,decide_eq_true_eq,beq_iff_eq,List.contains_iff_mem]at this;exact⟨fun _=>this,(fun z=>nomatch z),fun z=>nomatch z⟩
  | cell=>cases this
  | free =>
   simp only [Bool.or_eq_true,beq_iff_eq]at this;rw [<-g.sc]at this;exact⟨(fun z=>nomatch z),(fun z=>nomatch z),fun _=>this⟩
  | _=>exact⟨(fun z=>nomatch z),(fun z=>nomatch z),fun z=>nomatch z⟩
 ·refine⟨g.CT,?_,?_,?_,g.calm,h1,rfl,g.gfn,g.gcl,g.gco,g.gtx,g.blt,g.txt,g.tab⟩
  ·show hideN xs X.N++xs=hideN xs C.N++xs;rw [g.N]
  ·show(hideN xs X.N++xs).Nodup;rw [g.N];exact hd
  ·show(relabel scope X.env).names=relN C.names scope.names;rw [QS g.kind,g.sc]
theorem QbN{tg:Expr}{b:Bool}{xs:List Str}{scope:Scope}{C0:Addr}{s:Shared}{H:Hp}{fp:List Addr}(g:GX T A C X)(k:CompOk X xs scope)(gb:GX T A (C.inner xs scope) (X.block xs scope C0 s H fp))(h:Qmh tg b xs):PG (X.block xs scope C0 s H fp) tg (gT X.K (tgN b X.N.length)):=by
 have nm:∀{x:Str} {p:Pos} {i:Nat},x∈xs->(hideN xs X.N++xs)[i]?=some x->PG (X.block xs scope C0 s H fp) (.Name x p) (Qbc i):=fun {x p i} hx hi=>by
  have loc:(X.block xs scope C0 s H fp).env.scope.names.lookup x=some .local:=by
   show(relabel scope X.env).names.lookup x=some .local;rw [QS g.kind,Zt,k.loc x hx];rfl
  exact YL gb.nd hi (.inl loc) (.inr loc)
 rcases h with⟨rfl,x,p,rfl,rfl⟩ | ⟨rfl,x,p,y,q,kt,pt,rfl,rfl⟩
 ·exact nm (by simp) (by rw [<-Z0 (xs:=[x])];simp)
 ·refine QdM gb.calm (ZB (nm (by simp) (by rw [<-Z0 (xs:=[x,y])];simp)) (ZB (nm (by simp) ?_) QaZ))
  rw [<-Z0 (xs:=[x,y]),List.getElem?_append_right (by omega)]
  simp
noncomputable def CompParts(X:Cx)(elt:Expr)(gens:List Comprehension)(scope:Scope)(t:TE):Prop:=∃tg iter tl xs n wi g tt te,gens=[⟨tg,iter,Option.toList tl,0⟩]/\CompOk X xs scope/\PI X tg iter wi/\xs.length=n/\(∀C s H fp,PG (X.block xs scope C s H fp) tg g)/\(∀C s H fp,PTO (X.block xs scope C s H fp) tl tt)/\(∀C s H fp,PE (X.block xs scope C s H fp) elt te) /\
 (∀v,foldedSetIterable iter X.env v=pure v)/\∀σ H Q,σ.length=X.N.length->t σ H Q->QfC wi n g tt te σ H Q
theorem CompParts.pe{elt:Expr}{gens:List Comprehension}{scope:Scope}{pos:Pos}{t:TE}(g:GX T A C X)(h:CompParts X elt gens scope t):PE X (.ListComp elt gens scope pos) t:=by
 obtain⟨tg,iter,tl,xs,n,wi,gg,tt,te,rfl,ok,hi,hn,hg,ht,he,hf,imp⟩:=h;intro pins s σ H Q I q;exact QdO g.calm ok hi hn hg ht he hf pins s σ H Q I (imp σ H Q I.len q)
end
end Iv
namespace Iv
open PySem PySem.Spec PyProof.Rows L2
section
variable {X:Cx}{T:Tbl}{A:Adr}{C:Ctx}{cf:Cf}{m k:Nat}
theorem Qdt{b:Expr}(h:QgO b=none):ZC b=true:=by
 cases b with
 | Slice lo hi st p =>
  cases st with
  | none=>cases h
  | some e =>
   simp only [QgO]at h;split at h<;>cases h
 | _=>rfl
theorem QfI{b:Expr}{lo hi:Option Expr}(h:QgO b=some (.cut lo hi)):∃p,b=.Slice lo hi none p:=by
 cases b with
 | Slice lo' hi' st p =>
  cases st with
  | none=>cases h;exact⟨p,rfl⟩
  | some e =>
   simp only [QgO]at h;split at h<;>cases h
 | _=>cases h
theorem QiU{e:Expr}(h:Qnu e=true):∃j p q,e=.UnaryOp .USub (.Constant (.int 1) j p) q:=by
 unfold Qnu at h;split at h
 ·exact⟨_,_,_,rfl⟩
 ·cases h
theorem QfH{b:Expr}(h:QgO b=some .rev):∃j p1 p3 p,b=.Slice none none (some (.UnaryOp .USub (.Constant (.int 1) j p1) p3)) p:=by
 cases b with
 | Slice lo hi st p =>
  cases st with
  | none=>cases h
  | some e =>
   simp only [QgO]at h;split at h
   ·rename_i c;simp only [Bool.and_eq_true,Option.isNone_iff_eq_none]at c;obtain⟨⟨c1,c2⟩,c3⟩:=c;obtain⟨j,p1,p3,rfl⟩:=QiU c1;subst c2 c3;exact⟨j,p1,p3,p,rfl⟩
   ·cases h
 | _=>cases h
theorem QiX{a:Expr}{x:Str}(h:Qls a=.nm x):∃p,a=.Name x p:=by
 unfold Qls at h;split at h
 ·cases h;exact⟨_,rfl⟩
 ·cases h
theorem QaU{a b:Expr}{p:Pos}{d:Nat}{ir:E}(g:GX T A C X)(hu:X.A.units+1<cLine)(S:Snd T A C X cf m)(h:Qh (m+1) C (.Subscript a b p)=some ir):PE X (.Subscript a b p) (TI T A X.K (ev T cf d ir)):=by
 simp only [QpN]at h;split at h
 ·rename_i lo hi hb;obtain⟨p2,rfl⟩:=QfI hb;exact QhU S h
 ·rename_i hb;obtain⟨j,p1,p3,p2,rfl⟩:=QfH hb;refine Qz fun d=>?_;simp only [Option.bind_eq_some_iff]at h;obtain⟨a',ha,h⟩:=h;cases h;exact QmJ g.txt (S.e d a a' ha)
 ·cases h
 ·rename_i hb;have hs:=Qdt hb;refine Qz fun d=>?_;simp only [Option.bind_eq_some_iff]at h;obtain⟨b',hb',h⟩:=h
  have gen:((Qh m C a).bind fun a'=>some (E.ix a' b'))=some ir->PE X (.Subscript a b p) (TI T A X.K (ev T cf (d+1) ir)):=fun h=>by
   simp only [Option.bind_eq_some_iff]at h;obtain⟨a',ha,h⟩:=h;cases h;exact QiS hu g.txt (S.e d a a' ha) (S.e d b b' hb') hs
  split at h
  ·rename_i ks vs hh
   exact absurd hh (by cases a<;>simp [Qls])
  ·rename_i x hh;split at h
   ·rename_i k ht;obtain⟨px,rfl⟩:=QiX hh;cases h;unfold Qhz at ht;split at ht
    case isFalse=>cases ht
    rename_i c;simp only [Bool.and_eq_true,decide_eq_true_eq]at c;split at ht
    case h_2=>cases ht
    rename_i k' hx;split at ht
    ·cases ht;exact QmI g (S.e d b b' hb') hs c.1 c.2 hx
    ·cases ht
   ·exact gen h
  ·exact gen h
theorem Qcy{f:Expr}{args:List Expr}{kws:List Keyword}{p:Pos}{d:Nat}{ir:E}(g:GX T A C X)(F:Fc X T A cf k)(hr:Room (k+1) X.A)(S:Snd T A C X cf m)(h:Qh (m+1) C (.Call f args kws p)=some ir):PE X (.Call f args kws p) (TI T A X.K (ev T cf d ir)):=by
 refine Qz fun d=>?_
 cases kws with
 | cons kw kws=>cases f<;>exact nomatch (show(none:Option E)=some _ from h)
 | nil =>
  cases f with
  | Name x px =>
   simp only [QpM]at h;split at h
   ·cases h
   rename_i hn;have n1:x≠"__debug__":=fun z=>hn (.inl z);have n2:x≠"__name__":=fun z=>hn (.inr (.inl z))
   have hg:Y8 C x=true:=by
    cases q:Y8 C x with
    | true=>rfl
    | false=>exact absurd (.inr (.inr q)) hn
   split at h
   ·rename_i i hx;simp only [Option.bind_eq_some_iff]at h;obtain⟨es,ha,h⟩:=h;exact QhX g F (hr.mono (Nat.le_succ _)) S hg n1 hx ha h
   ·cases h
   ·cases h
   ·cases h
   ·split at h
    ·cases h
    rename_i hx;split at h
    ·rename_i e;subst e;split at h
     ·rename_i a t pt;split at h
      ·rename_i c;simp only [Option.bind_eq_some_iff]at h;obtain⟨a',ha,ty,ht,h⟩:=h;cases h;exact QmL g S hg hx c.1 c.2.1 c.2.2 ht ha
      ·cases h
     ·cases h
    ·split at h
     ·rename_i ra hra;simp only [Option.bind_eq_some_iff]at h;obtain⟨es,ha,h⟩:=h;cases h;exact nomatch hra
     ·split at h
      ·rename_i a hra;simp only [Option.bind_eq_some_iff]at h;obtain⟨a',ha,h⟩:=h;cases h;exact Qkg g hg hx hra (S.e d a a' ha) (QD ha)
      ·simp only [Option.bind_eq_some_iff]at h;obtain⟨b,hb,es,ha,h⟩:=h;cases h
       exact Qpc g (by have:=hr.units;omega) S hg n1 n2 hb ha
  | Attribute o x pa =>
   simp only [QpL]at h;split at h
   case isFalse=>cases h
   rename_i c;simp only [Bool.and_eq_true,decide_eq_true_eq]at c;split at h
   ·cases h
   ·simp only [Option.bind_eq_some_iff]at h;obtain⟨b,hb,o',ho,es,ha,h⟩:=h;cases h;exact Qpb (QiW hr) g.txt S hb c.1.1 c.1.2 c.2 ho ha
  | _=>exact nomatch (show(none:Option E)=some _ from h)
theorem Qgu{e:Expr}{u:U}(h:QeP e=some u):∃v k,RK u k/\v=kV k/\PE X e (tC v):=by
 unfold QeP at h;split at h
 ·cases h;exact⟨_,Sum.inl _,⟨rfl,rfl⟩,rfl,QdN⟩
 ·cases h;exact⟨_,Sum.inr _,rfl,rfl,QgZ⟩
 ·cases h
theorem Qdv{d:Nat}{pos:Pos}(S:Snd T A C X cf m):∀{ks:List (Option Expr)} {vs:List Expr} {kk:List U} {es:List E},JJ ks=some kk->Qg5 (Qh m C) vs=some es->kk.length=vs.length->∃trs keys,RKs kk keys/\PPs X pos ks vs trs /\
  ∀{α:List Addr} {ρ:Rho} {σ:St} {hs h1:Hs} {H:Hp} {us:List U} {Q:List (V×V)->Hp->Prop},RS A α ρ σ->Rep T A X.K α hs H->evs (ev T cf d) ρ es hs=some (us,h1)->(∀α1 zs H1,Ext α α1 H H1->Rep T A X.K α1 h1 H1->RUs A α1 us zs->Q ((keys.map kV).zip zs) H1)->QbB trs σ H Q
 | [],[],kk,es,h1,h2,hl=>by
  cases h1;cases h2;refine⟨[],[],.nil,Qie,fun rs R e q=>?_⟩;simp only [evs]at e;cases e;exact q _ [] _ Ext.refl R .nil
 | [],_::_,kk,es,h1,h2,hl=>by cases h1;cases hl
 | none::_,_,kk,es,h1,h2,hl=>by cases h1
 | some k::ks,[],kk,es,h1,h2,hl=>by
  simp only [JJ,Option.bind_eq_some_iff]at h1;obtain⟨k',_,r,_,h1⟩:=h1;cases h1;cases hl
 | some k::ks,v::vs,kk,es,h1,h2,hl=>by
  simp only [JJ,Option.bind_eq_some_iff]at h1;obtain⟨k',hk,r,hr,h1⟩:=h1;cases h1;simp only [Qg5,Option.bind_eq_some_iff]at h2;obtain⟨e',he,es',hes,h2⟩:=h2;cases h2
  obtain⟨trs,keys,rk,pp,rd⟩:=Qdv (d:=d) (pos:=pos) S hr hes (by simpa using hl)
  obtain⟨kv,key,rk0,rfl,pk⟩:=Qgu (X:=X) hk;refine⟨(tC (kV key),TI T A X.K (ev T cf d e'))::trs,key::keys,.cons rk0 rk,QfV pk (S.e d v e' he) pp,fun {α ρ σ hs h1 H us Q} rs R e q=>?_⟩;simp only [evs]at e;obtain⟨u,h2,e1,e⟩:=Qd e;obtain⟨us',h3,e2,e⟩:=Qd e;cases e;exact TI.run rs R e1 fun α1 y H1 E1 R1 r1 rs1=>rd rs1 R1 e2 fun α2 zs H2 E2 R2 r2=>q α2 (y::zs) H2 (E1.trans E2 R2.h) R2 (.cons (r1.mono E2.pre) r2)
theorem QgF:∀{keys:List Key} {zs:List V},keys.length=zs.length->(keys.map kV).zip zs=(keys.zip zs).map fun kv=>(kV kv.1,kv.2)
 | [],[],_=>rfl
 | k::ks,z::zs,h=>by simp only [List.map_cons,List.zip_cons_cons,QgF (keys:=ks) (zs:=zs) (by simpa using h)]
 | [],_::_,h=>by cases h
 | _::_,[],h=>by cases h
theorem RKs.zip{α:List Addr}:∀{kk us:List U} {keys:List Key} {zs:List V},RKs kk keys->RUs A α us zs->RD A α (kk.zip us) (keys.zip zs)
 | _,_,_,_,.nil,_=>.nil
 | _,_,_,_,.cons _ _,.nil=>.nil
 | _,_,_,_,.cons a t,.cons b r=>.cons ⟨a,b⟩ (RKs.zip t r)
theorem Qb1{α β:Type}{f:α->Option β}:∀{xs:List α} {ys:List β},Qg5 f xs=some ys->ys.length=xs.length
 | [],ys,h=>by cases h;rfl
 | x::r,ys,h=>by
  simp only [Qg5,Option.bind_eq_some_iff]at h;obtain⟨b,_,bs,h2,h⟩:=h;cases h;rw [List.length_cons,List.length_cons,Qb1 h2]
theorem QaA:∀{ks:List (Option Expr)} {kk:List U},JJ ks=some kk->ks.all (·.isSome)=true/\kk.length=ks.length
 | [],kk,h=>by cases h;exact⟨rfl,rfl⟩
 | none::_,kk,h=>by cases h
 | some k::ks,kk,h=>by
  simp only [JJ,Option.bind_eq_some_iff]at h;obtain⟨k',_,r,hr,h⟩:=h;cases h;have ih:=QaA hr
  exact⟨by simpa using ih.1,by simp [ih.2]⟩
theorem QmM{ks:List (Option Expr)}{vs:List Expr}{p:Pos}{d:Nat}{ir:E}(S:Snd T A C X cf m)(h:((JJ ks).bind fun kk=>if kk.length=vs.length/\kk.length<=15/\kk≠[]then(Qg5 (Qh m C) vs).bind fun es=>some (E.dsp kk es)else none)=some ir):PE X (.Dict ks vs p) (TI T A X.K (ev T cf d ir)):=by
 simp only [Option.bind_eq_some_iff]at h;obtain⟨kk,hk,h⟩:=h;split at h
 case isFalse=>cases h
 rename_i c;simp only [Option.bind_eq_some_iff]at h;obtain⟨es,hes,h⟩:=h;cases h;obtain⟨c1,c2,c3⟩:=c;obtain⟨al,kl⟩:=QaA hk;refine Qz fun d=>?_;obtain⟨trs,keys,rk,pp,rd⟩:=Qdv (d:=d) (pos:=p) S hk hes c1
 refine QR (Qin pp al (by omega) (fun z=>by subst z;exact c3 (List.length_eq_zero_iff.mp (by simpa using kl))) (by omega)) ?_
 rintro σ H Q ⟨α,ρ,hs,u,hs',rs,R,e,q⟩;simp only [ev]at e;obtain⟨us,h1,e1,e⟩:=Qd e;split at e
 case h_2=>cases e
 rename_i e2;cases e;intro b hb;obtain⟨R',E'⟩:=R.new (o:=.dic []) (ho:=.dK []) hb ⟨[],Qf,.nil⟩;have l0:=R.h.len;refine rd (rs.mono E'.pre) R' e1 fun α1 zs H1 E1 R1 r1=>?_
 have ub:α1[hs.length]?=some b:=E1.pre _ _ (by rw [<-l0];exact QG)
 obtain⟨kv,ekv,rkv⟩:=R1.h.ob hs.length b _ ub e2;cases rkv
 have zl:keys.length=zs.length:=by rw [<-Paired.length rk,<-r1.length,JH e1,Qb1 hes,c1]
 refine⟨ekv,keys.zip zs,QgF zl,?_,?_⟩
 ·rw [List.length_zip,<-Paired.length rk];omega
 obtain⟨R2,E2⟩:=R1.put (o:=.dic (ZG [] (kk.zip us))) (ho:=.dK (ZX [] (keys.zip zs))) ub ⟨_,Qf,RG.merge Jk (RKs.zip rk r1) .nil⟩;exact q α1 (.ref b) _ ((E'.trans E1 R1.h).trans E2 R2.h) R2 ⟨b,ub,rfl⟩
theorem Qdw(g:GX T A C X)(F:Fc X T A cf k)(hr:Room (k+1) X.A)(S:Snd T A C X cf m)(cp:∀d elt gens scope p ir,Qh (m+1) C (.ListComp elt gens scope p)=some ir->CompParts X elt gens scope (TI T A X.K (ev T cf d ir)))(d:Nat)(e:Expr)(ir:E)(h:Qh (m+1) C e=some ir):PE X e (TI T A X.K (ev T cf d ir)):=by
 cases e with
 | Constant c j p=>exact QhW h
 | Name x p=>exact Qkf g h
 | BinOp a o b p=>exact QmN S h
 | UnaryOp o a p =>
  cases o with
  | USub=>exact QmK S h
  | Not=>exact(Qke g.txt S h).1
  | _=>exact nomatch (show(none:Option E)=some _ from h)
 | BoolOp o vs p =>
  cases vs with
  | nil=>cases o<;>first | exact nomatch (show(none:Option E)=some _ from h) | simp [Qh]at h
  | cons a r =>
   cases o with
   | And=>exact(S.an d a r p ir h).2
   | Or=>exact(S.orr d a r p ir h).2
 | Compare a os bs p =>
  match os,bs,h with
  | [o],[b],h=>exact(Qki g.txt g.tab hr.units S h).1
  | [_,_],[_,_],h=>exact nomatch (show(none:Option E)=some _ from h)
  | [],_,h=>exact nomatch (show(none:Option E)=some _ from h)
  | [_],[],h=>exact nomatch (show(none:Option E)=some _ from h)
  | [_],_::_::_,h=>exact nomatch (show(none:Option E)=some _ from h)
  | [_,_],[],h=>exact nomatch (show(none:Option E)=some _ from h)
  | [_,_],[_],h=>exact nomatch (show(none:Option E)=some _ from h)
  | [_,_],_::_::_::_,h=>exact nomatch (show(none:Option E)=some _ from h)
  | _::_::_::_,_,h=>exact nomatch (show(none:Option E)=some _ from h)
 | IfExp t a b p=>exact QhV S h
 | Tuple es j p=>exact QhS S h
 | List es p=>exact Qkh S h
 | Subscript a b p=>exact QaU g (QiW hr) S h
 | ListComp elt gens scope p=>exact(cp d elt gens scope p ir h).pe g
 | Dict ks vs p =>
  cases ks with
  | cons k0 ks=>exact QmM S (by simpa only [QpI]using h)
  | nil =>
   cases vs with
   | cons v0 vs=>exact nomatch (show(none:Option E)=some _ from h)
   | nil =>
    simp only [QpJ]at h;cases h;refine Qz fun d=>QR Qf1 ?_;rintro σ H Q ⟨α,ρ,hs,u,hs',rs,R,e,q⟩;simp only [ev]at e;cases e;intro p hp;obtain⟨R',E'⟩:=R.new (o:=.dic []) hp ⟨[],Qf,.nil⟩
    exact q _ _ _ E' R' ⟨p,by rw [<-R.h.len];exact QG,rfl⟩
 | Call f args kws p=>exact Qcy g F hr S h
 | _=>exact nomatch (show(none:Option E)=some _ from h)
theorem QT{e:Expr}{ir:E}{d:Nat}(g:GX T A C X)(he:∀whole,isTrue e X.env whole=(do let v <-whole;standAt e.pos;holding [v] (truthy v)))(h:∀d,PE X e (TI T A X.K (ev T cf d ir)))(hir:∀d ρ hs,evT T cf (d+1) ir ρ hs=bd (ev T cf d ir ρ hs) fun u h1=>(Zj T u h1).map fun b=>(b,h1)):
  PT X e (TIT T A X.K (evT T cf d ir)):=by
 refine QbL fun d=>?_;refine Qju (QfQ (h d) he) ?_;rintro σ H Q ⟨α,ρ,hs,u,hs',rs,R,e,q⟩;rw [hir]at e;obtain⟨u1,h1,e1,e⟩:=Qd e;simp only [Option.map_eq_some_iff]at e;obtain⟨b,e2,e⟩:=e;cases e;exact TI.run rs R e1 fun α1 x H1 E1 R1 r1 rs1=>⟨_,Qdd g.txt R1 e2 r1,q α1 H1 E1 R1⟩
theorem QJ{ir:E}(h:QgY ir=true):∀d ρ hs,evT T cf (d+1) ir ρ hs=bd (ev T cf d ir ρ hs) fun u h1=>(Zj T u h1).map fun b=>(b,h1):=by
 intro d ρ hs
 cases ir<;>first | rfl | cases h
theorem Qj8(g:GX T A C X)(F:Fc X T A cf k)(hr:Room (k+1) X.A)(S:Snd T A C X cf m)(cp:∀d elt gens scope p ir,Qh (m+1) C (.ListComp elt gens scope p)=some ir->CompParts X elt gens scope (TI T A X.K (ev T cf d ir)))(d:Nat)(e:Expr)(ir:E)(hne:∀t a b p,e≠.IfExp t a b p)(ok:okT e ir=true)(h:Qh (m+1) C e=some ir):PT X e (TIT T A X.K (evT T cf d ir)):=by
 have all:=fun d=>Qdw g F hr S cp d e ir h
 cases e with
 | Constant c j p=>exact QT g (fun _=>rfl) all (QJ ok)
 | Name x p=>exact QT g (fun _=>rfl) all (QJ ok)
 | BinOp a o b p=>exact QT g (fun _=>rfl) all (QJ ok)
 | UnaryOp o a p =>
  cases o with
  | USub=>exact QT g (fun _=>rfl) all (QJ ok)
  | Not=>exact(Qke g.txt S h).2
  | _=>exact nomatch (show(none:Option E)=some _ from h)
 | BoolOp o vs p =>
  cases vs with
  | nil=>cases o<;>first | exact nomatch (show(none:Option E)=some _ from h) | simp [Qh]at h
  | cons a r =>
   cases o with
   | And=>exact(S.an d a r p ir h).1.pt
   | Or=>exact(S.orr d a r p ir h).1.pt
 | Compare a os bs p =>
  match os,bs,h with
  | [o],[b],h=>exact(Qki g.txt g.tab hr.units S h).2
  | [_,_],[_,_],h=>exact nomatch (show(none:Option E)=some _ from h)
  | [],_,h=>exact nomatch (show(none:Option E)=some _ from h)
  | [_],[],h=>exact nomatch (show(none:Option E)=some _ from h)
  | [_],_::_::_,h=>exact nomatch (show(none:Option E)=some _ from h)
  | [_,_],[],h=>exact nomatch (show(none:Option E)=some _ from h)
  | [_,_],[_],h=>exact nomatch (show(none:Option E)=some _ from h)
  | [_,_],_::_::_::_,h=>exact nomatch (show(none:Option E)=some _ from h)
  | _::_::_::_,_,h=>exact nomatch (show(none:Option E)=some _ from h)
 | IfExp t a b p=>exact absurd rfl (hne t a b p)
 | Tuple es j p=>exact QT g (fun _=>rfl) all (QJ ok)
 | List es p=>exact QT g (fun _=>rfl) all (QJ ok)
 | Subscript a b p=>exact QT g (fun _=>rfl) all (QJ ok)
 | ListComp elt gens scope p=>exact QT g (fun _=>rfl) all (QJ ok)
 | Dict ks vs p=>exact QT g (fun _=>rfl) all (QJ ok)
 | Attribute a f p=>exact QT g (fun _=>rfl) all (QJ ok)
 | Call f args kws p=>exact QT g (fun _=>rfl) all (QJ ok)
 | _=>exact nomatch (show(none:Option E)=some _ from h)
theorem Qo2:Snd T A C X cf 0 where
 e:=fun d e ir h=>by first | exact nomatch (show(none:Option E)=some _ from h) | simp [Qh]at h
 t:=fun d e ir h=>by simp [compT]at h
 an:=fun d a r p ir h=>by simp [compAnd]at h
 orr:=fun d a r p ir h=>by simp [compOr]at h
 a:=fun d es irs h=>by simp [compA]at h
 o:=fun d e ir h=>by simp [compO]at h
structure Snd2(T:Tbl)(A:Adr)(C:Ctx)(X:Cx)(cf:Cf)(m:Nat):Prop where
 s:Snd T A C X cf m
 w:∀d it src tg,compSrc m C it=some src->(Qma src=true->∃elts kt pt,tg=.Tuple elts kt pt)->PI X tg it (TIW T A X.K (fun ρ hs=>Ze T (ev T cf d) ρ src hs))
 c:∀d elt gens scope p ir,Qh m C (.ListComp elt gens scope p)=some ir->CompParts X elt gens scope (TI T A X.K (ev T cf d ir))
theorem Qkz{tl:Option Expr}{t:Option E}{Y:Cx}{C':Ctx}{d:Nat}(S:Snd T A C' Y cf m)(h:compTO (m+1) C' tl=some t):PTO Y tl (TIT T A Y.K (Z4 (evT T cf d) t)):=by
 cases tl with
 | none =>
  simp only [compTO]at h;cases h;rintro σ H Q ⟨α,ρ,hs,u,hs',rs,R,e,q⟩;simp only [Z4]at e;cases e;exact q α H Ext.refl R
 | some e =>
  simp only [compTO,Option.bind_eq_some_iff]at h;obtain⟨e',he,h⟩:=h;cases h;exact(S.t d e e' he).1
theorem Qdf{tg:Expr}{b:Bool}{xs:List Str}{src:Src}(ht:Qmh tg b xs)(ok:QdU src (tgN b 0)=true):Qma src=true->∃elts kt pt,tg=.Tuple elts kt pt:=by
 intro hp
 rcases ht with⟨rfl,_⟩ | ⟨rfl,x,p,y,q,k,pt,rfl,_⟩
 ·cases src<;>first | (cases hp;done) | (cases ok;done)
 ·exact⟨_,_,_,rfl⟩
theorem Jm(g:GX T A C X)(S:Snd2 T A C X cf m)(SB:∀xs scope C0 s H fp,Jp C xs scope=true->Snd2 T A (C.inner xs scope) (X.block xs scope C0 s H fp) cf m)(ST:∀xs scope C0 s H fp tl t d,Jp C xs scope=true->compTO m (C.inner xs scope) tl=some t->PTO (X.block xs scope C0 s H fp) tl (TIT T A X.K (Z4 (evT T cf d) t)))(d:Nat)(elt:Expr)(gens:List Comprehension)(scope:Scope)(p:Pos)(ir:E)
  (h:Qh (m+1) C (.ListComp elt gens scope p)=some ir):CompParts X elt gens scope (TI T A X.K (ev T cf d ir)):=by
 simp only [QpK]at h;split at h
 case h_2=>cases h
 rename_i gn hgen;split at h
 case isFalse=>cases h
 rename_i ok;simp only [Option.bind_eq_some_iff]at h;obtain⟨src,hsrc,h⟩:=h;split at h
 case isFalse=>cases h
 rename_i oks;simp only [Option.bind_eq_some_iff]at h;obtain⟨t,ht,el,hel,h⟩:=h;cases h;obtain⟨tg,rfl,htg⟩:=QcI hgen;obtain⟨ck,gb⟩:=Z6 g ok
 have hn:gn.xs.length=nN gn.b:=by
  rcases htg with⟨e,x,p,_,e'⟩ | ⟨e,x,p,y,q,k,pt,_,e'⟩<;>rw [e,e']<;>rfl
 cases d with
 | zero =>
  exact⟨tg,gn.iter,gn.tl,gn.xs,nN gn.b,_,_,TIT T A X.K (Z4 (evT T cf 0) t),TI T A X.K (ev T cf 0 el),rfl,ck,S.w 0 gn.iter src tg hsrc (Qdf htg oks),hn,(fun C0 s H fp=>QbN g ck (gb C0 s H fp) htg),(fun C0 s H fp=>ST _ _ C0 s H fp _ _ 0 ok ht),(fun C0 s H fp=>show PE _ elt (TI T A X.K (ev T cf 0 el))from(SB _ scope C0 s H fp ok).s.e 0 elt el hel),Qam hsrc,fun σ H Q _ ⟨_,_,_,_,_,_,_,e,_⟩=>nomatch e⟩
 | succ d =>
  exact⟨tg,gn.iter,gn.tl,gn.xs,nN gn.b,_,_,TIT T A X.K (Z4 (evT T cf d) t),TI T A X.K (ev T cf d el),rfl,ck,S.w d gn.iter src tg hsrc (Qdf htg oks),hn,(fun C0 s H fp=>QbN g ck (gb C0 s H fp) htg),(fun C0 s H fp=>ST _ _ C0 s H fp _ _ d ok ht),(fun C0 s H fp=>show PE _ elt (TI T A X.K (ev T cf d el))from(SB _ scope C0 s H fp ok).s.e d elt el hel),Qam hsrc,fun σ H Q hl hq=>QeT g.txt hl hq⟩
theorem QhR:∀(m:Nat) {C:Ctx} {X:Cx},GX T A C X->Fc X T A cf k->Room (k+1) X.A->Snd2 T A C X cf m
 | 0,C,X,g,F,hr=>⟨Qo2,fun d it src tg h=>by simp [compSrc]at h,fun d elt gens scope p ir h=>by first | exact nomatch (show(none:Option E)=some _ from h) | simp [Qh]at h⟩
 | 1,C,X,g,F,hr=>by
  have S0:=QhR 0 g F hr;have S:=S0.s
  have cp:=Jm g S0 (fun x scope C0 s H fp ok=>QhR 0 ((Z6 g ok).2 C0 s H fp) ⟨F.ok,F.some,F.df,F.xf⟩ hr) (fun xs scope C0 s H fp tl t d ok h=>by simp [compTO]at h)
  refine⟨⟨Qdw g F hr S cp,fun d e ir h=>?_,Qkk S,Qon S,QgP S,Qkd S⟩,fun d it src tg h hz=>Qka g S h hz,cp⟩;cases e<;>exact nomatch (show(none:Option E)=some _ from h)
 | m+2,C,X,g,F,hr=>by
  have S1:=QhR (m+1) g F hr;have S:=S1.s;have S':=QhR m g F hr;have cp:=Jm g S1 (fun x scope C0 s H fp ok=>QhR (m+1) ((Z6 g ok).2 C0 s H fp) ⟨F.ok,F.some,F.df,F.xf⟩ hr) (fun xs scope C0 s H fp tl t d ok h=>Qkz (QhR m ((Z6 g ok).2 C0 s H fp) ⟨F.ok,F.some,F.df,F.xf⟩ hr).s h);refine⟨⟨Qdw g F hr S cp,fun d e ir h=>?_,Qkk S,Qon S,QgP S,Qkd S⟩,fun d it src tg h hz=>Qka g S h hz,cp⟩
  have hne:∀t a b p,e≠.IfExp t a b p:=by
   rintro t a b p rfl;simp [compT]at h
  have h':((Qh (m+1) C e).bind fun ir=>if okT e ir=true then some ir else none)=some ir:=by
   cases e<;>first | exact h | (simp [compT]at h;done)
  simp only [Option.bind_eq_some_iff]at h';obtain⟨ir',he,h'⟩:=h';split at h'
  ·rename_i ok;cases h';exact⟨Qj8 g F hr S'.s S1.c d e ir hne ok he,S.e d e ir he⟩
  ·cases h'
end
end Iv
namespace Iv
open PySem PySem.Spec PyProof.Rows L2
section
variable {X:Cx}{T:Tbl}{A:Adr}{C:Ctx}{cf:Cf}{m k:Nat}
theorem Qfc{st:Stmt}{t:TS}(h:∀D σ H,¬t D σ H):PS X st t:=fun _ _ σ H D _ q=>(h D σ H q).elim
theorem QgE{st:List Stmt}{t:TS}(h:∀D σ H,¬t D σ H):PSs X st t:=fun _ _ σ H D _ q=>(h D σ H q).elim
theorem QbU{e:Expr}{ir:E}{tg:Option Expr}{l:Nat}{env:Env}(h:Qh m C e=some ir)(hn:∀elt gens scope p,e≠.ListComp elt gens scope p):swapsWith e tg l env=pure false:=by
 cases e<;>first | rfl | exact absurd rfl (hn _ _ _ _) | (cases m<;>exact nomatch (show(none:Option E)=some _ from h))
theorem QmH{tg:Expr}{t:Tg}(g:GX T A C X)(fl:∀x,X.fn x=true\/X.env.scope.names.lookup x=some .local)(h:Jo C tg=some t):PG X tg (gT X.K t):=by
 have nm:∀{x:Str} {p:Pos} {i:Nat},Qba C x=true->idx x C.N=some i->PG X (.Name x p) (Qbc i):=fun {x p i} h1 h2=>YL g.nd (by rw [g.N];exact Zl h2) (Qao g h1) (fl x)
 unfold Jo at h;split at h
 ·split at h
  ·rename_i hl;simp only [Option.map_eq_some_iff]at h;obtain⟨i,hi,rfl⟩:=h;exact nm hl hi
  ·cases h
 ·split at h
  ·rename_i c;simp only [Bool.and_eq_true]at c;simp only [Option.bind_eq_some_iff,Option.map_eq_some_iff]at h;obtain⟨i,hi,j,hj,rfl⟩:=h;exact QdM g.calm (ZB (nm c.1.1 hi) (ZB (nm c.1.2 hj) QaZ))
  ·cases h
 ·cases h
theorem QcW{o i:Expr}{pos:Pos}{env:Env}(h:ZC i=true):∀v,assign (.Subscript o i pos) env v=(do
   let ov <-holding [v] (eval o env);let iv <-holding [v,ov] (eval i env)
   standAt pos
   holding [v,ov,iv] (setItem ov iv v)
   release [v,ov,iv] []):=by
 intro v
 cases i<;>first | rfl | cases h
theorem QiC{e o i:Expr}{p:Pos}{ir:E}{l:Nat}{env:Env}(h:Qh m C e=some ir):swapsWithSole [.Subscript o i p] e l env=pure false:=by
 cases e<;>first | rfl | (cases m<;>exact nomatch (show(none:Option E)=some _ from h))
theorem QiB{e:Expr}{es:List Expr}{kt:Nat}{p:Pos}{ir:E}{l:Nat}{env:Env}(h:Qh m C e=some ir):swapsWithSole [.Tuple es kt p] e l env=pure false:=by
 cases e<;>first | rfl | (cases m<;>exact nomatch (show(none:Option E)=some _ from h))
theorem Qal{e:Expr}{es:List Expr}{kt:Nat}{p:Pos}{env:Env}(h:Qg3 e=true):swappedStores [.Tuple es kt p] e env=pure none:=by
 cases e<;>first | rfl | cases h
theorem Qgm{e:Expr}(h:QoK e=some true):∃x j q,e=.Constant (.str x) j q:=by
 cases e with
 | Constant c j q=>cases c<;>first | exact⟨_,_,_,rfl⟩ | cases h
 | _=>cases h
theorem JN{ts:List Expr}{a:As}(h:QlV ts=some a):∃t,ts=[t]/\as1 t=some a:=by
 match ts,h with
 | [t],h=>exact⟨t,rfl,h⟩
theorem Qjn{ts:List Expr}{x:Str}(h:QlV ts=some (.nm x)):∃p,ts=[.Name x p]:=by
 obtain⟨t,rfl,h'⟩:=JN h;clear h;have h:=h';clear h';unfold as1 at h;split at h
 ·cases h;exact⟨_,rfl⟩
 ·cases h
 ·cases h
 ·split at h
  ·unfold Qfx at h;split at h<;>cases h
  ·cases h
 ·cases h
theorem QgB{ts:List Expr}{o i:Expr}(h:QlV ts=some (.sub o i)):∃p,ts=[.Subscript o i p]:=by
 obtain⟨t,rfl,h'⟩:=JN h;clear h;have h:=h';clear h';unfold as1 at h;split at h
 ·cases h
 ·cases h
 ·cases h;exact⟨_,rfl⟩
 ·split at h
  ·unfold Qfx at h;split at h<;>cases h
  ·cases h
 ·cases h
theorem QgA{ts:List Expr}{x y:Str}{p q:Pos}(h:QlV ts=some (.two x p y q)):∃kt pt,ts=[.Tuple [.Name x p,.Name y q] kt pt]:=by
 obtain⟨t,rfl,h'⟩:=JN h;clear h;have h:=h';clear h';unfold as1 at h;split at h
 ·cases h
 ·cases h
 ·cases h
 ·split at h
  ·unfold Qfx at h;split at h
   ·cases h;exact⟨_,_,rfl⟩
   ·cases h
  ·cases h
 ·cases h
theorem Qat{x:Str}(h:Qb8 C x=true):C.names.lookup x=some .local:=by
 unfold Qb8 at h;split at h
 ·rename_i e;exact e
 ·cases h
theorem RUs.set{α:List Addr}{u:U}{v:V}(p:Nat)(r:RU A α u v):∀{us:List U} {vs:List V},RUs A α us vs->RUs A α (us.set p u) (vs.set p v):=fun {us vs} h=>by
 induction h generalizing p with
 | nil=>exact .nil
 | cons a t ih =>
  cases p with
  | zero=>exact .cons r t
  | succ p=>exact .cons a (ih p)
theorem QjU{tg:Expr}{t:Tg}{src:Src}(ht:Jo C tg=some t)(ok:QdU src t=true):Qma src=true->∃elts kt pt,tg=.Tuple elts kt pt:=by
 intro hp
 cases tg with
 | Tuple elts kt pt=>exact⟨_,_,_,rfl⟩
 | Name x p =>
  simp only [Jo]at ht;split at ht
  ·simp only [Option.map_eq_some_iff]at ht;obtain⟨i,_,rfl⟩:=ht
   cases src<;>first | (cases hp;done) | (cases ok;done)
  ·cases ht
 | _=>simp [Jo]at ht
structure SndS(T:Tbl)(A:Adr)(C:Ctx)(X:Cx)(cf:Cf)(m:Nat):Prop where
 s:∀d st ir,Yq m C st=some ir->PS X st (TIS T A X.K (ex T cf d ir))
 ss:∀d sts irs,compSs m C sts=some irs->PSs X sts (TIS T A X.K (exs T cf d irs))
theorem Qnf{K:PySem.W.Frag}{ir:S}:∀D σ H,¬TIS T A K (ex T cf 0 ir) D σ H:=fun _ _ _ ⟨_,_,_,_,_,_,_,_,h,_⟩=>nomatch h
theorem Qk6{K:PySem.W.Frag}{irs:List S}:∀D σ H,¬TIS T A K (exs T cf 0 irs) D σ H:=fun _ _ _ ⟨_,_,_,_,_,_,_,_,h,_⟩=>nomatch h
theorem QfT{st:Stmt}{ir:S}{d:Nat}(h:∀d',PS X st (TIS T A X.K (ex T cf (d'+1) ir))):PS X st (TIS T A X.K (ex T cf d ir)):=by
 cases d with
 | zero=>exact Qfc Qnf
 | succ d=>exact h d
theorem TIS.run{K:PySem.W.Frag}{α:List Addr}{ρ ρ':Rho}{σ:St}{hs h1:Hs}{H:Hp}{f:Ex}{fl:Fl}{D:Ends}(rs:RS A α ρ σ)(rp:Rep T A K α hs H)(h:f ρ hs=some (fl,ρ',h1))
  (k:∀α1 σ1 H1,Ext α α1 H H1->Rep T A K α1 h1 H1->RS A α1 ρ' σ1->flE A α1 D σ1 H1 fl):TIS T A K f D σ H:=⟨α,ρ,hs,fl,ρ',h1,rs,rp,h,k⟩
theorem Qgk{d:Nat}{body:List S}{w:Wk}{t:Tg}{J:It}{K:PySem.W.Frag}{D:Ends}{α0:List Addr}{H0:Hp}{σ0:St}{ρ0 ρ':Rho}{h0 hs':Hs}{fl:Fl}{n:Nat}(hK:K=X.K)(tx:Txt T A X.K X.mg)(rs0:RS A α0 ρ0 σ0)(R0:Rep T A X.K α0 h0 H0)(W0:WJ A X.K α0 J w)
  (e0:ZE T w t (exs T cf d body) n 0 ρ0 h0=some (fl,ρ',hs'))
  (q:∀α' σ' H',Ext α0 α' H0 H'->Rep T A X.K α' hs' H'->RS A α' ρ' σ'->flE A α' D σ' H' fl):
  ∃W:Nat->Nat->St->Hp->Prop,(∃m,W 0 m σ0 H0)/\∀i m σ H,W i m σ H->(J.stop i H/\D.nx σ H)\/(J.go i H/\∃N:St->Hp->Prop,(∀σ' H',N σ' H'->∃m',m'<m/\W (i+1) m' σ' H') /\
   ∀x H',J.yld i H x H'->gT X.K t x σ H' fun σ2 H2=>TIS T A X.K (exs T cf d body) { D with nx:=N,ct:=N,bk:=D.nx } σ2 H2):=by
 refine⟨fun i m σ H=>∃α ρ hs,RS A α ρ σ/\Rep T A X.K α hs H/\Ext α0 α H0 H/\ZE T w t (exs T cf d body) m i ρ hs=some (fl,ρ',hs'),⟨n,α0,ρ0,h0,rs0,R0,Ext.refl,e0⟩,?_⟩;rintro i m σ H ⟨α,ρ,hs,rs,R,E,e⟩
 cases m with
 | zero=>cases e
 | succ m =>
  have W:=W0.mono E.pre;simp only [ZE]at e;split at e
  ·cases e
  ·rename_i ei;cases e;exact .inl ⟨Qb7 tx R W ei,q α σ H E R rs⟩
  ·rename_i x ei;split at e
   ·cases e
   ·rename_i ρ1 et;obtain⟨go,yl⟩:=Qel tx R W rs ei et;refine .inr ⟨go,fun σ' H'=>∃α ρ hs,RS A α ρ σ'/\Rep T A X.K α hs H'/\Ext α0 α H0 H'/\ZE T w t (exs T cf d body) m (i+1) ρ hs=some (fl,ρ',hs'),fun σ' H' z=>⟨m,Nat.lt_succ_self _,z⟩,?_⟩;intro v H' hy;refine yl v H' _ hy fun σ2 rs2 R2 E2=>?_;have E02:Ext α0 α H0 H':=E.trans E2 R2.h;split at e
    ·rename_i ρ2 h2 eb;exact TIS.run rs2 R2 eb fun α3 σ3 H3 E3 R3 rs3=>⟨α3,ρ2,h2,rs3,R3,E02.trans E3 R3.h,e⟩
    ·rename_i ρ2 h2 eb;exact TIS.run rs2 R2 eb fun α3 σ3 H3 E3 R3 rs3=>⟨α3,ρ2,h2,rs3,R3,E02.trans E3 R3.h,e⟩
    ·rename_i ρ2 h2 eb;cases e;exact TIS.run rs2 R2 eb fun α3 σ3 H3 E3 R3 rs3=>q α3 σ3 H3 (E02.trans E3 R3.h) R3 rs3
    ·rename_i n1 n2 n3
     cases fl with
     | next=>exact absurd e (n1 _ _)
     | cont=>exact absurd e (n2 _ _)
     | brk=>exact absurd e (n3 _ _)
     | ret u=>exact TIS.run rs2 R2 e fun α3 σ3 H3 E3 R3 rs3=>q α3 σ3 H3 (E02.trans E3 R3.h) R3 rs3
theorem Qkn{α:List Addr}{u:U}{k:Key}(h:RK u k):RU A α u (kV k):=by
 cases u<;>simp only [RK]at h<;>first | exact h.elim | skip
 ·obtain⟨rfl,rfl⟩:=h;exact⟨_,rfl,Cg.refl _ _⟩
 ·subst h;rfl
theorem Qkp{α:List Addr}:∀{kvs:List (U×U)} {kv:List (Key×V)} {i:Nat} {p:U×U} {q:Key×V},RD A α kvs kv->kvs[i]?=some p->kv[i]?=some q->RK p.1 q.1
 | _,_,i,p,q,.nil,h1,h2=>by simp at h1
 | _,_,0,p,q,.cons r t,h1,h2=>by
  simp at h1 h2;subst h1 h2;exact r.1
 | _,_,i+1,p,q,.cons r t,h1,h2=>Qkp (i:=i) t (by simpa using h1) (by simpa using h2)
theorem Qkm{α:List Addr}:∀{kvs:List (List U×U)} {kv:List (List Key×V)} {i:Nat} {p:List U×U} {q:List Key×V},RT A α kvs kv->kvs[i]?=some p->kv[i]?=some q->RKs p.1 q.1/\RU A α p.2 q.2
 | _,_,i,p,q,.nil,h1,h2=>by simp at h1
 | _,_,0,p,q,.cons r t,h1,h2=>by
  simp at h1 h2;subst h1 h2;exact r
 | _,_,i+1,p,q,.cons r t,h1,h2=>Qkm (i:=i) t (by simpa using h1) (by simpa using h2)
theorem Qev{d:Nat}{body:List S}{i0:Nat}{a:Addr}{ob:Obj}{kv:List (Key×V)}{kvs:List (U×U)}{D:Ends}{α0:List Addr}{H0:Hp}{σ0:St}{ρ0 ρ':Rho}{h0 hs':Hs}{fl:Fl}(rs0:RS A α0 ρ0 σ0)(R0:Rep T A X.K α0 h0 H0)
  (hz:H0 a=some (.frz ob (.dK kv))) (rd:RD A α0 kvs kv)
  (e0:Qew i0 (exs T cf d body) (kvs.map (·.1)) ρ0 h0=some (fl,ρ',hs'))
  (q:∀α' σ' H',Ext α0 α' H0 H'->Rep T A X.K α' hs' H'->RS A α' ρ' σ'->flE A α' D σ' H' fl):
  ∃W:Nat->Nat->St->Hp->Prop,(∃m,W 0 m σ0 H0)/\∀i m σ H,W i m σ H->((Itk a ob kv).stop i H/\D.nx σ H)\/((Itk a ob kv).go i H/\∃N:St->Hp->Prop,(∀σ' H',N σ' H'->∃m',m'<m/\W (i+1) m' σ' H') /\
   ∀x H',(Itk a ob kv).yld i H x H'->gT X.K (.name i0) x σ H' fun σ2 H2=>TIS T A X.K (exs T cf d body) { D with nx:=N,ct:=N,bk:=D.nx } σ2 H2):=by
 have hl:=Paired.length rd;refine⟨fun i m σ H=>∃α ρ hs,RS A α ρ σ/\Rep T A X.K α hs H/\Ext α0 α H0 H/\m+i=kvs.length/\Qew i0 (exs T cf d body) ((kvs.drop i).map (·.1)) ρ hs=some (fl,ρ',hs'),⟨kvs.length,α0,ρ0,h0,rs0,R0,Ext.refl,rfl,e0⟩,?_⟩;rintro i m σ H ⟨α,ρ,hs,rs,R,E,hm,e⟩;have hzi:=E.fz a ob (.dK kv) hz
 cases m with
 | zero =>
  rw [List.drop_of_length_le (by omega)]at e
  simp only [List.map_nil,Qew]at e;cases e
  exact .inl ⟨⟨hzi,by omega⟩,q α σ H E R rs⟩
 | succ m =>
  have hi:i<kvs.length:=by omega
  rw [List.drop_eq_getElem_cons hi,List.map_cons]at e;simp only [Qew]at e
  refine .inr ⟨⟨hzi,by omega⟩,fun σ' H'=>∃α ρ hs,RS A α ρ σ'/\Rep T A X.K α hs H'/\Ext α0 α H0 H'/\m+(i+1)=kvs.length/\Qew i0 (exs T cf d body) ((kvs.drop (i+1)).map (·.1)) ρ hs=some (fl,ρ',hs'),fun σ' H' z=>⟨m,Nat.lt_succ_self _,z⟩,?_⟩
  rintro x H' ⟨rfl,p,hp,rfl⟩;have rk:RK kvs[i].1 p.1:=Qkp rd (List.getElem?_eq_getElem hi) hp;have rs2:=rs.set i0 (Qkn (A:=A) (α:=α) rk);show TIS T A X.K (exs T cf d body) _ _ _;split at e
  ·rename_i ρ2 h2 eb
   exact TIS.run rs2 R eb fun α3 σ3 H3 E3 R3 rs3=>⟨α3,ρ2,h2,rs3,R3,E.trans E3 R3.h,by omega,e⟩
  ·rename_i ρ2 h2 eb
   exact TIS.run rs2 R eb fun α3 σ3 H3 E3 R3 rs3=>⟨α3,ρ2,h2,rs3,R3,E.trans E3 R3.h,by omega,e⟩
  ·rename_i ρ2 h2 eb;cases e;exact TIS.run rs2 R eb fun α3 σ3 H3 E3 R3 rs3=>q α3 σ3 H3 (E.trans E3 R3.h) R3 rs3
  ·rename_i n1 n2 n3
   cases fl with
   | next=>exact absurd e (n1 _ _)
   | cont=>exact absurd e (n2 _ _)
   | brk=>exact absurd e (n3 _ _)
   | ret u=>exact TIS.run rs2 R e fun α3 σ3 H3 E3 R3 rs3=>q α3 σ3 H3 (E.trans E3 R3.h) R3 rs3
theorem Qdy{α:List Addr}:∀{ks:List U} {keys:List Key},RKs ks keys->RUs A α ks (keys.map kV)
 | _,_,.nil=>.nil
 | _,_,.cons r t=>.cons (Qkn r) (Qdy t)
theorem Rep.alias{K:PySem.W.Frag}{α:List Addr}{hs:Hs}{H:Hp}{b:Addr}{ks:List U}{keys:List Key}(R:Rep T A K α hs H)(hb:H b=some (.tup (keys.map kV)))(rk:RKs ks keys):Rep T A K (α++[b]) (hs++[.tup ks]) H/\Ext α (α++[b]) H H:=by
 have nd:∀(i j:Nat) a,(α++[b])[i]?=some a->(α++[b])[j]?=some a->i=j\/∃vs,H a=some (.tup vs):=fun i j a e1 e2=>by
  rcases Qv e1 with q1 | ⟨_,q1⟩
  ·rcases Qv e2 with q2 | ⟨_,q2⟩
   ·exact R.h.nd i j a q1 q2
   ·exact .inr ⟨_,by rw [q2];exact hb⟩
  ·exact .inr ⟨_,by rw [q1];exact hb⟩
 refine⟨⟨⟨by simp [R.h.len],nd,fun n a ob e1 e2=>?_⟩,R.s⟩,⟨Qu,fun n a e l=>?_,fun _ _ e _=>e,fun _ _ _ e=>e,fun _ o e=>⟨o,e,fun _=>Iff.rfl⟩⟩⟩
 ·rcases Qv e1 with q | ⟨q1,q2⟩
  ·rcases Qv e2 with z | ⟨z,_⟩
   ·exact RO.keep (R.h.ob n a ob q z) Qu fun x e=>e
   ·have:=getElem?_lt q;rw [R.h.len]at this;omega
  ·subst q2
   rcases Qv e2 with z | ⟨_,z⟩
   ·have:=(List.getElem?_eq_some_iff.mp z).1;rw [<-R.h.len]at this;omega
   ·subst z;exact⟨_,hb,Qdy rk⟩
 ·rcases Qv e with q | ⟨_,q⟩
  ·have:=getElem?_lt q;omega
  ·exact .inr ⟨_,by rw [q];exact hb⟩
theorem Qet{d:Nat}{body:List S}{i0:Nat}{a:Addr}{ob:Obj}{kv:List (List Key×V)}{kvs:List (List U×U)}{D:Ends}{α0:List Addr}{H0:Hp}{σ0:St}{ρ0 ρ':Rho}{h0 hs':Hs}{fl:Fl}(rs0:RS A α0 ρ0 σ0)(R0:Rep T A X.K α0 h0 H0)
  (hz:H0 a=some (.frz ob (.dT kv))) (rd:RT A α0 kvs kv)
  (e0:Qeu i0 (exs T cf d body) (kvs.map (·.1)) ρ0 h0=some (fl,ρ',hs'))
  (q:∀α' σ' H',Ext α0 α' H0 H'->Rep T A X.K α' hs' H'->RS A α' ρ' σ'->flE A α' D σ' H' fl):
  ∃W:Nat->Nat->St->Hp->Prop,(∃m,W 0 m σ0 H0)/\∀i m σ H,W i m σ H->((QjB a ob kv).stop i H/\D.nx σ H)\/((QjB a ob kv).go i H/\∃N:St->Hp->Prop,(∀σ' H',N σ' H'->∃m',m'<m/\W (i+1) m' σ' H') /\
   ∀x H',(QjB a ob kv).yld i H x H'->gT X.K (.name i0) x σ H' fun σ2 H2=>TIS T A X.K (exs T cf d body) { D with nx:=N,ct:=N,bk:=D.nx } σ2 H2):=by
 have hl:=Paired.length rd;refine⟨fun i m σ H=>∃α ρ hs,RS A α ρ σ/\Rep T A X.K α hs H/\Ext α0 α H0 H/\m+i=kvs.length/\Qeu i0 (exs T cf d body) ((kvs.drop i).map (·.1)) ρ hs=some (fl,ρ',hs'),⟨kvs.length,α0,ρ0,h0,rs0,R0,Ext.refl,rfl,e0⟩,?_⟩;rintro i m σ H ⟨α,ρ,hs,rs,R,E,hm,e⟩;have hzi:=E.fz a ob (.dT kv) hz
 cases m with
 | zero =>
  rw [List.drop_of_length_le (by omega)]at e
  simp only [List.map_nil,Qeu]at e;cases e
  exact .inl ⟨⟨hzi,by omega⟩,q α σ H E R rs⟩
 | succ m =>
  have hi:i<kvs.length:=by omega
  rw [List.drop_eq_getElem_cons hi,List.map_cons]at e;simp only [Qeu]at e
  refine .inr ⟨⟨hzi,by omega⟩,fun σ' H'=>∃α ρ hs,RS A α ρ σ'/\Rep T A X.K α hs H'/\Ext α0 α H0 H'/\m+(i+1)=kvs.length/\Qeu i0 (exs T cf d body) ((kvs.drop (i+1)).map (·.1)) ρ hs=some (fl,ρ',hs'),fun σ' H' z=>⟨m,Nat.lt_succ_self _,z⟩,?_⟩
  rintro x H' ⟨rfl,p,b,hp,rfl,hb⟩;have rk:RKs kvs[i].1 p.1:=(Qkm rd (List.getElem?_eq_getElem hi) hp).1;obtain⟨R1,E1⟩:=R.alias hb rk
  have at1:(α++[b])[hs.length]?=some b:=by rw [<-R.h.len];exact QG
  have rs2:=(rs.mono E1.pre).set i0 (u:=.ref hs.length) (v:=.ref b) ⟨b,at1,rfl⟩;have E2:=E.trans E1 R1.h;show TIS T A X.K (exs T cf d body) _ _ _;split at e
  ·rename_i ρ2 h2 eb
   exact TIS.run rs2 R1 eb fun α3 σ3 H3 E3 R3 rs3=>⟨α3,ρ2,h2,rs3,R3,E2.trans E3 R3.h,by omega,e⟩
  ·rename_i ρ2 h2 eb
   exact TIS.run rs2 R1 eb fun α3 σ3 H3 E3 R3 rs3=>⟨α3,ρ2,h2,rs3,R3,E2.trans E3 R3.h,by omega,e⟩
  ·rename_i ρ2 h2 eb;cases e;exact TIS.run rs2 R1 eb fun α3 σ3 H3 E3 R3 rs3=>q α3 σ3 H3 (E2.trans E3 R3.h) R3 rs3
  ·rename_i n1 n2 n3
   cases fl with
   | next=>exact absurd e (n1 _ _)
   | cont=>exact absurd e (n2 _ _)
   | brk=>exact absurd e (n3 _ _)
   | ret u=>exact TIS.run rs2 R1 e fun α3 σ3 H3 E3 R3 rs3=>q α3 σ3 H3 (E2.trans E3 R3.h) R3 rs3
theorem Qgs{u:U}{hs h1:Hs}{n:Nat}{kvs:List (List U×U)}(h:QeL u hs h1=some (n,kvs)):u=.ref n/\(∃k0,hs[n]?=some (.dct k0))/\h1[n]?=some (.dct kvs):=by
 unfold QeL at h;split at h
 case h_2=>cases h
 split at h
 case h_2=>cases h
 rename_i k0 e0;split at h
 case h_2=>cases h
 rename_i k1 e1;cases h;exact⟨rfl,⟨k0,e0⟩,e1⟩
theorem Qp3{st:Stmt}{t t1 t2:TS}(h1:PS X st t1)(h2:PS X st t2)(h:∀D σ H,t D σ H->t1 D σ H\/t2 D σ H):PS X st t:=fun pins s σ H D I z=>(h D σ H z).elim (h1 pins s σ H D I) (h2 pins s σ H D I)
theorem Qgr{u:U}{hs h1:Hs}{n:Nat}{kvs:List (U×U)}(h:Qbk u hs h1=some (n,kvs)):u=.ref n/\(∃k0,hs[n]?=some (.dic k0))/\h1[n]?=some (.dic kvs):=by
 unfold Qbk at h;split at h
 case h_2=>cases h
 split at h
 case h_2=>cases h
 rename_i k0 e0;split at h
 case h_2=>cases h
 rename_i k1 e1;cases h;exact⟨rfl,⟨k0,e0⟩,e1⟩
theorem RU.scal{α α':List Addr}{u:U}{v:V}(h:Qcx u=true)(r:RU A α u v):RU A α' u v:=by
 cases u<;>first | exact r | cases h
theorem RU.back{α α':List Addr}{u:U}{v v0:V}(p:∀(n:Nat) a,α[n]?=some a->α'[n]?=some a)(h0:RU A α u v0)(h:RU A α' u v):RU A α u v:=by
 cases u with
 | ref n =>
  obtain⟨a,e,_⟩:=h0;obtain⟨b,e2,r⟩:=h;rw [p n a e]at e2;cases e2;exact⟨a,e,r⟩
 | _=>exact h
theorem Qag{β γ:Type}{P Q R:β->γ->Prop}(f:∀b c c',P b c->Q b c'->R b c'):∀{l:List β} {m m':List γ},Paired P l m->Paired Q l m'->Paired R l m'
 | _,_,_,.nil,.nil=>.nil
 | _,_,_,.cons a s,.cons b t=>.cons (f _ _ _ a b) (Qag f s t)
theorem RO.back{α α':List Addr}{H H':Hp}{a:Addr}{o:O}(p:∀(n:Nat) a,α[n]?=some a->α'[n]?=some a)(h0:RO T A α H a o)(h:RO T A α' H' a o):RO T A α H' a o:=by
 cases o with
 | lst xs=>obtain⟨_,_,r0⟩:=h0;obtain⟨vs,e,r⟩:=h;exact⟨vs,e,Qag (R:=RU A α) (fun _ _ _ x y=>RU.back p x y) r0 r⟩
 | tup xs=>obtain⟨_,_,r0⟩:=h0;obtain⟨vs,e,r⟩:=h;exact⟨vs,e,Qag (R:=RU A α) (fun _ _ _ x y=>RU.back p x y) r0 r⟩
 | ins c fs=>obtain⟨_,_,_,r0,_⟩:=h0;obtain⟨dx,fv,e,r,l⟩:=h;exact⟨dx,fv,e,Qag (fun _ _ _ x y=>⟨y.1,RU.back p x.2 y.2⟩) r0 r,l⟩
 | dic _=>obtain⟨_,_,r0⟩:=h0;obtain⟨kv,e,r⟩:=h;exact⟨kv,e,Qag (fun _ _ _ x y=>⟨y.1,RU.back p x.2 y.2⟩) r0 r⟩
 | dct _=>obtain⟨_,_,r0⟩:=h0;obtain⟨kv,e,r⟩:=h;exact⟨kv,e,Qag (fun _ _ _ x y=>⟨y.1,RU.back p x.2 y.2⟩) r0 r⟩
 | fzt _=>obtain⟨_,_,_,r0⟩:=h0;obtain⟨kv,ob,e,r⟩:=h;exact⟨kv,ob,e,Qag (fun _ _ _ x y=>⟨y.1,RU.back p x.2 y.2⟩) r0 r⟩
 | fzd _=>obtain⟨_,_,_,r0⟩:=h0;obtain⟨kv,ob,e,r⟩:=h;exact⟨kv,ob,e,Qag (fun _ _ _ x y=>⟨y.1,RU.back p x.2 y.2⟩) r0 r⟩
 | err _=>exact h
theorem Rep.drop{K:PySem.W.Frag}{α α1:List Addr}{hs h1:Hs}{H H1:Hp}(R:Rep T A K α hs H)(E1:Ext α α1 H H1)(R1:Rep T A K α1 h1 H1)(hp:h1.take hs.length=hs):Rep T A K α hs H1/\Ext α α H H1:=by
 have nd:∀(i j:Nat) a,α[i]?=some a->α[j]?=some a->i=j\/∃vs,H1 a=some (.tup vs):=fun i j a e1 e2=>by
  rcases R.h.nd i j a e1 e2 with q | ⟨vs,q⟩
  ·exact .inl q
  ·obtain⟨o',q1,q2⟩:=E1.tr a _ q;exact .inr ⟨vs,q1.trans (congrArg some ((q2 vs).mp rfl))⟩
 refine⟨⟨⟨R.h.len,nd,fun n a o e1 e2=>?_⟩,R1.s⟩,⟨fun _ _ e=>e,fun n b e l=>by have:=getElem?_lt e;omega,E1.keep,E1.fz,E1.tr⟩⟩
 have l:n<hs.length:=(List.getElem?_eq_some_iff.mp e2).1;refine RO.back E1.pre (R.h.ob n a o e1 e2) (R1.h.ob n a o (E1.pre n a e1) ?_);rw [<-hp,List.getElem?_take_of_lt l]at e2;exact e2
theorem QmG{e:Expr}{e':Iv.E}{d:Nat}(h:∀d,PE X e (TI T A X.K (ev T cf d e'))):PE X e (TI T A X.K (ev T cf d (.zap e'))):=by
 cases d with
 | zero=>exact Y0 Qk7
 | succ d =>
  refine QR (h d) ?_;rintro σ H Q ⟨α,ρ,hs,u,hs',rs,R,e,q⟩;simp only [ev]at e;split at e
  ·rename_i u1 h1 e1;split at e
   ·rename_i c;cases e;refine TI.run rs R e1 fun α1 v H1 E1 R1 r1 rs1=>?_;obtain⟨R2,E2⟩:=R.drop E1 R1 c.2;exact q α v H1 E2 R2 (RU.scal c.1 r1)
   ·cases e;exact TI.run rs R e1 fun α1 v H1 E1 R1 r1 rs1=>q α1 v H1 E1 R1 r1
  ·cases e
theorem Qen{e:Expr}(h:Qeo e=true):∃p,e=.Dict [] [] p:=by
 unfold Qeo at h;split at h
 ·exact⟨_,rfl⟩
 ·cases h
structure Bd(X:Cx):Prop where
 stk:X.stack=X.env::X.outer
 frm:X.env.frame=some X.env.locals
 ex:X.ex=[]
theorem Qj9(bX:Bd X)(F:Fc X T A cf k)(hr:Room k X.A)(hu:X.A.units+1<cLine)(g:GX T A C X)(fl:∀x,X.fn x=true\/X.env.scope.names.lookup x=some .local)(S2:Snd2 T A C X cf m)(SS:SndS T A C X cf m)(d:Nat)(st:Stmt)(ir:Iv.S)(h:Yq (m+1) C st=some ir):PS X st (TIS T A X.K (ex T cf d ir)):=by
 have S:=S2.s;refine QfT fun d=>?_
 cases st with
 | Pass p=>cases h;exact Z7 Qia fun D σ H ⟨α,ρ,hs,fl,ρ',hs',rs,R,e,q⟩=>by cases e;exact q α σ H Ext.refl R rs
 | Break p=>cases h;exact Z7 QfU fun D σ H ⟨α,ρ,hs,fl,ρ',hs',rs,R,e,q⟩=>by cases e;exact q α σ H Ext.refl R rs
 | Continue p=>cases h;exact Z7 QaY fun D σ H ⟨α,ρ,hs,fl,ρ',hs',rs,R,e,q⟩=>by cases e;exact q α σ H Ext.refl R rs
 | Expr e p =>
  unfold Yq at h;try dsimp only at h;split at h
  ·rename_i hd;obtain⟨x,j,q,rfl⟩:=Qgm hd;cases h
   exact Z7 QkC fun D σ H ⟨α,ρ,hs,fl,ρ',hs',rs,R,e,q⟩=>by cases e;exact q α σ H Ext.refl R rs
  ·cases h
  ·rename_i hn;simp only [Option.map_eq_some_iff]at h;obtain⟨e',he,rfl⟩:=h
   refine Z7 (Qib (S.e d e e' he) (QbU he fun elt gens scope q z=>by subst z;cases hn)) ?_
   rintro D σ H ⟨α,ρ,hs,fl,ρ',hs',rs,R,e,q⟩;simp only [ex]at e;obtain⟨u,h1,e1,e⟩:=Qd e;cases e;exact TI.run rs R e1 fun α1 x H1 E1 R1 r1 rs1=>q α1 σ H1 E1 R1 rs1
 | Return v p =>
  cases v with
  | none =>
   cases h
   exact Z7 Qh9 fun D σ H ⟨α,ρ,hs,fl,ρ',hs',rs,R,e,q⟩=>by cases e;exact q α σ H Ext.refl R rs .non rfl
  | some e =>
   unfold Yq at h;simp only [Option.map_eq_some_iff]at h;obtain⟨e',he,rfl⟩:=h;refine Z7 (QkB (S.e d e e' he)) ?_;rintro D σ H ⟨α,ρ,hs,fl,ρ',hs',rs,R,e,q⟩;simp only [ex]at e;obtain⟨u,h1,e1,e⟩:=Qd e;cases e;exact TI.run rs R e1 fun α1 x H1 E1 R1 r1 rs1=>q α1 σ H1 E1 R1 rs1 x r1
 | Raise x c p =>
  cases h
  exact Qfc fun D σ H ⟨_,_,_,_,_,_,_,_,e,_⟩=>by simp [ex]at e
 | AugAssign t o e p=>first | exact nomatch (show(none:Option Iv.S)=some _ from h) | simp [Yq]at h
 | If t a b p =>
  unfold Yq at h;simp only [Option.bind_eq_some_iff]at h;obtain⟨t',ht,a',ha,b',hb,h⟩:=h;cases h;refine Z7 (Qm2 (S.t d t t' ht).1 (SS.ss d a a' ha) (SS.ss d b b' hb)) ?_;rintro D σ H ⟨α,ρ,hs,fl,ρ',hs',rs,R,e,q⟩;simp only [ex]at e;split at e
  ·rename_i h1 e1;refine TIT.run rs R e1 fun α1 H1 E1 R1 rs1=>?_;rw [if_pos rfl];exact TIS.run rs1 R1 e fun α2 σ2 H2 E2 R2 rs2=>q α2 σ2 H2 (E1.trans E2 R2.h) R2 rs2
  ·rename_i h1 e1;refine TIT.run rs R e1 fun α1 H1 E1 R1 rs1=>?_;rw [if_neg Bool.false_ne_true];exact TIS.run rs1 R1 e fun α2 σ2 H2 E2 R2 rs2=>q α2 σ2 H2 (E1.trans E2 R2.h) R2 rs2
  ·cases e
 | While t a b p=>first | exact nomatch (show(none:Option Iv.S)=some _ from h) | simp [Yq]at h
 | For tg it a b p =>
  cases b with
  | cons _ _=>first | exact nomatch (show(none:Option Iv.S)=some _ from h) | simp [Yq]at h
  | nil =>
   unfold Yq at h;simp only [Option.bind_eq_some_iff]at h;obtain⟨tg',ht,it',hi,h⟩:=h;split at h
   ·rename_i i0 hk;simp only [Option.bind_eq_some_iff]at h;obtain⟨e',he,a',ha,h⟩:=h;cases h
    have et:tg'=.name i0:=by
     unfold QoF at hk;split at hk
     case h_2=>cases hk
     split at hk
     case h_2=>cases hk
     split at hk
     case isFalse=>cases hk
     cases hk;rfl
    subst et
    refine Qp3 (Qh8 (QdC (by rw [g.xe];exact PassesOwn.never) g.calm (Qij (S.e d it e' he)) (QmH g fl ht) (SS.ss d a a' ha) (Qam hi))) (QfS (QdC (by rw [g.xe];exact PassesOwn.never) g.calm (QfX (S.e d it e' he)) (QmH g fl ht) (SS.ss d a a' ha) (Qam hi))) ?_
    rintro D σ H ⟨α,ρ,hs,fl,ρ',hs',rs,R,e,q⟩;simp only [ex]at e;obtain⟨u,h1,e1,e⟩:=Qd e;split at e
    ·rename_i n kvs ed;obtain⟨rfl,⟨k0,hk0⟩,hk1⟩:=Qgr ed;unfold Qhw at e;split at e
     case h_2=>cases e
     rename_i fl' ρ2 h2 ef;split at e
     case h_2=>cases e
     rename_i kvs' hk2;cases e;obtain⟨a0,ha0,kv0,hH0,rd0⟩:=R.h.adr hk0;refine .inl ⟨a0,kv0,hH0,TI.run rs R e1 fun α1 x H1 E1 R1 r1 rs1=>?_⟩;obtain⟨a1,ha1,rfl⟩:=r1
     have ea:a1=a0:=by
      have:=E1.pre n a0 ha0;rw [ha1]at this;exact Option.some.inj this
     subst ea;obtain⟨kv1,hH1,rd1⟩:=R1.h.ob n a1 _ ha1 hk1;refine⟨a1,kv1,rfl,hH1,fun ob=>?_⟩;have R2:Rep T A X.K α1 (h1.set n (.fzd kvs)) (upd H1 a1 (.frz ob (.dK kv1))):=R1.put0 ha1 ⟨kv1,ob,Qf,rd1⟩;have ne:∀b o,H1 b=some o->b∉α1->b≠a1:=fun b o _ hb z=>hb (z▸List.mem_of_getElem? ha1);refine Qev rs1 R2 Qf rd1 ef fun α3 σ3 H3 E3 R3 rs3=>?_;have z3:=E3.fz a1 ob (.dK kv1) Qf;have ha3:=E3.pre n a1 ha1;obtain⟨kv3,ob3,hH3,rd3⟩:=R3.h.ob n a1 _ ha3 hk2;rw [z3]at hH3;cases hH3;have R4:Rep T A X.K α3 (h2.set n (.dic kvs')) (upd H3 a1 (.dK kv1)):=R3.put0 ha3 ⟨kv1,Qf,rd3⟩
     have E4:Ext α1 α3 H1 (upd H3 a1 (.dK kv1)):=by
      refine⟨E3.pre,fun k b e l=>?_,fun b o e hb=>?_,fun b o kv e=>?_,fun b o e=>?_⟩
      ·have hn:=E3.new k b e l
       have hb:b≠a1:=fun z=>by
        rw [z,Qf]at hn
        rcases hn with q | ⟨_,q⟩<;>cases q
       rw [Qe hb]at hn;exact hn
      ·have hb':=ne b o e hb;rw [Qe hb']
       exact E3.keep b o (by rw [Qe hb'];exact e) hb
      ·have hb':b≠a1:=fun z=>by rw [z,hH1]at e;cases e
       rw [Qe hb']
       exact E3.fz b o kv (by rw [Qe hb'];exact e)
      ·by_cases hb':b=a1
       ·subst hb';rw [hH1]at e;cases e;exact⟨_,Qf,fun _=>Iff.rfl⟩
       ·obtain⟨o',q1,q2⟩:=E3.tr b o (by rw [Qe hb'];exact e)
        exact⟨o',by rw [Qe hb'];exact q1,q2⟩
     have fin:=q α3 σ3 _ (E1.trans E4 R4.h) R4 rs3
     cases fl with
     | next=>exact⟨ob,kv1,z3,fin⟩
     | brk=>exact⟨ob,kv1,z3,fin⟩
     | cont=>exact⟨ob,kv1,z3,fin⟩
     | ret u=>exact fun v rv=>⟨ob,kv1,z3,fin v rv⟩
    ·split at e
     case h_2=>cases e
     rename_i n kvs ed;obtain⟨rfl,⟨k0,hk0⟩,hk1⟩:=Qgs ed;unfold thawT at e;split at e
     case h_2=>cases e
     rename_i fl' ρ2 h2 ef;split at e
     case h_2=>cases e
     rename_i kvs' hk2;cases e;obtain⟨a0,ha0,kv0,hH0,rd0⟩:=R.h.adr hk0;refine .inr ⟨a0,kv0,hH0,TI.run rs R e1 fun α1 x H1 E1 R1 r1 rs1=>?_⟩;obtain⟨a1,ha1,rfl⟩:=r1
     have ea:a1=a0:=by
      have:=E1.pre n a0 ha0;rw [ha1]at this;exact Option.some.inj this
     subst ea;obtain⟨kv1,hH1,rd1⟩:=R1.h.ob n a1 _ ha1 hk1;refine⟨a1,kv1,rfl,hH1,fun ob=>?_⟩;have R2:Rep T A X.K α1 (h1.set n (.fzt kvs)) (upd H1 a1 (.frz ob (.dT kv1))):=R1.put0 ha1 ⟨kv1,ob,Qf,rd1⟩;have ne:∀b o,H1 b=some o->b∉α1->b≠a1:=fun b o _ hb z=>hb (z▸List.mem_of_getElem? ha1);refine Qet rs1 R2 Qf rd1 ef fun α3 σ3 H3 E3 R3 rs3=>?_;have z3:=E3.fz a1 ob (.dT kv1) Qf;have ha3:=E3.pre n a1 ha1;obtain⟨kv3,ob3,hH3,rd3⟩:=R3.h.ob n a1 _ ha3 hk2;rw [z3]at hH3;cases hH3;have R4:Rep T A X.K α3 (h2.set n (.dct kvs')) (upd H3 a1 (.dT kv1)):=R3.put0 ha3 ⟨kv1,Qf,rd3⟩
     have E4:Ext α1 α3 H1 (upd H3 a1 (.dT kv1)):=by
      refine⟨E3.pre,fun k b e l=>?_,fun b o e hb=>?_,fun b o kv e=>?_,fun b o e=>?_⟩
      ·have hn:=E3.new k b e l
       have hb:b≠a1:=fun z=>by
        rw [z,Qf]at hn
        rcases hn with q | ⟨_,q⟩<;>cases q
       rw [Qe hb]at hn;exact hn
      ·have hb':=ne b o e hb;rw [Qe hb']
       exact E3.keep b o (by rw [Qe hb'];exact e) hb
      ·have hb':b≠a1:=fun z=>by rw [z,hH1]at e;cases e
       rw [Qe hb']
       exact E3.fz b o kv (by rw [Qe hb'];exact e)
      ·by_cases hb':b=a1
       ·subst hb';rw [hH1]at e;cases e;exact⟨_,Qf,fun _=>Iff.rfl⟩
       ·obtain⟨o',q1,q2⟩:=E3.tr b o (by rw [Qe hb'];exact e)
        exact⟨o',by rw [Qe hb'];exact q1,q2⟩
     have fin:=q α3 σ3 _ (E1.trans E4 R4.h) R4 rs3
     cases fl with
     | next=>exact⟨ob,kv1,z3,fin⟩
     | brk=>exact⟨ob,kv1,z3,fin⟩
     | cont=>exact⟨ob,kv1,z3,fin⟩
     | ret u=>exact fun v rv=>⟨ob,kv1,z3,fin v rv⟩
   split at h
   case isFalse=>cases h
   rename_i ok;simp only [Option.bind_eq_some_iff]at h;obtain⟨a',ha,h⟩:=h;cases h
   refine Z7 (QdC (by rw [g.xe];exact PassesOwn.never) g.calm (S2.w d it _ tg hi (QjU ht ok)) (QmH g fl ht) (SS.ss d a a' ha) (Qam hi)) ?_
   rintro D σ H ⟨α,ρ,hs,fl,ρ',hs',rs,R,e,q⟩;simp only [ex]at e;obtain⟨w,h1,e1,e⟩:=Qd e;refine⟨α,ρ,hs,w,h1,rs,R,e1,fun α1 J H1 E1 R1 W1=>?_⟩;exact Qgk rfl g.txt (rs.mono E1.pre) R1 W1 e fun α2 σ2 H2 E2 R2 rs2=>q α2 σ2 H2 (E1.trans E2 R2.h) R2 rs2
 | Assign ts e p =>
  unfold Yq at h;try dsimp only at h;split at h
  ·rename_i x ht;obtain⟨px,rfl⟩:=Qjn ht;split at h
   case isFalse=>cases h
   rename_i hl;simp only [Option.bind_eq_some_iff]at h;obtain⟨i,hi,h⟩:=h;split at h
   ·rename_i ce;cases h;rw [Bool.and_eq_true]at ce;obtain⟨pd,rfl⟩:=Qen ce.1
    refine Z7 (QbM (i:=i) g.nd (by rw [g.N];exact Zl hi) (Qao g hl) Qf0 (QbU (m:=1) (C:=C) (ir:=.dnew) (by rfl) (by intro _ _ _ _ z;cases z)) (fl x)) ?_
    rintro D σ H ⟨α,ρ,hs,fl,ρ',hs',rs,R,e,q⟩;simp only [ex]at e;obtain⟨u,h1,e1,e⟩:=Qd e;cases e
    cases d with
    | zero=>cases e1
    | succ d =>
     simp only [ev]at e1;cases e1;intro b hb;obtain⟨R',E'⟩:=R.new (o:=.dct []) (ho:=.dT []) hb ⟨[],Qf,.nil⟩
     exact q _ _ _ E' R' ((rs.mono E'.pre).set i ⟨b,by rw [<-R.h.len];exact QG,rfl⟩)
   simp only [Option.bind_eq_some_iff]at h;obtain⟨e',he,h⟩:=h;cases h
   have fin:∀e' D σ H,TIS T A X.K (ex T cf (d+1) (.set i e')) D σ H->TI T A X.K (ev T cf d e') σ H fun v H1=>D.nx (σ.set i (some v)) H1:=by
    intro e';rintro D σ H ⟨α,ρ,hs,fl,ρ',hs',rs,R,e,q⟩;simp only [ex]at e;obtain⟨u,h1,e1,e⟩:=Qd e;cases e;exact TI.run rs R e1 fun α1 x H1 E1 R1 r1 rs1=>q α1 _ H1 E1 R1 (rs1.set i r1)
   unfold QjC;by_cases hz:(C.T.zps.contains x&&Qk5 e)=true
   ·rw [if_pos hz];rw [Bool.and_eq_true]at hz
    exact Z7 (QbM (i:=i) g.nd (by rw [g.N];exact Zl hi) (Qao g hl) (QmG fun d=>S.e d e e' he) (QbU he fun elt gens scope q z=>by subst z;cases hz.2) (fl x)) (fin _)
   rw [if_neg hz];by_cases hc:∃elt gens scope q,e=.ListComp elt gens scope q
   ·obtain⟨elt,gens,scope,pc,rfl⟩:=hc;obtain⟨tg,iter,tl,xs,n,wi,gg,tt,te,rfl,ok,hi',hn',hg',ht',he',hf,imp⟩:=S2.c d elt gens scope pc e' he
    exact fun pins s σ H D I hq=>Qic g.calm g.nd ok hi' hn' hg' ht' he' hf (by rw [g.N];exact Zl hi) (Qao g hl) (fl x) pins s σ H D I (imp σ H _ I.len (fin _ D σ H hq))
   ·exact Z7 (QbM (i:=i) g.nd (by rw [g.N];exact Zl hi) (Qao g hl) (S.e d e e' he) (QbU he fun elt gens scope q z=>hc ⟨elt,gens,scope,q,z⟩) (fl x)) (fin _)
  ·cases h
  ·rename_i o i ht;obtain⟨ps,rfl⟩:=QgB ht;split at h
   case isFalse=>cases h
   rename_i nsl;simp only [Option.bind_eq_some_iff]at h;obtain⟨e',he,o',ho,i',hi,h⟩:=h;cases h;refine Z7 (QgT (S.e d e e' he) (QkH (S.e d o o' ho) (S.e d i i' hi) (Qj7 QfK (QfL hu)) (QcW nsl)) (QiC he) rfl rfl) ?_;rintro D σ H ⟨α,ρ,hs,fl,ρ',hs',rs,R,e,q⟩;simp only [ex]at e;obtain⟨u,h1,e1,e⟩:=Qd e;obtain⟨x,h2,e2,e⟩:=Qd e;obtain⟨k,h3,e3,e⟩:=Qd e;simp only [Option.map_eq_some_iff]at e;obtain⟨h4,e4,e⟩:=e;cases e;refine TI.run rs R e1 fun α1 v H1 E1 R1 r1 rs1=>TI.run rs1 R1 e2 fun α2 y H2 E2 R2 r2 rs2=>TI.run rs2 R2 e3 fun α3 z H3 E3 R3 r3 rs3=>?_;unfold QaX at e4;split at e4
   case h_2=>cases e4
   rename_i n;split at e4
   case h_3=>cases e4
   case h_2 =>
    rename_i oo _ eo;obtain⟨a,ha,rfl⟩:=r2.mono E3.pre;obtain⟨H',g',R',E'⟩:=Qi8 R3 eo ha e4 r3 (r1.mono fun n a e=>E3.pre n a (E2.pre n a e));exact .inr ⟨a,H',rfl,g',q α3 σ _ (((E1.trans E2 R2.h).trans E3 R3.h).trans E' R'.h) R' rs3⟩
   rename_i xs eo;split at e4
   case h_2=>cases e4
   rename_i j;simp only [Option.map_eq_some_iff]at e4;obtain⟨p,ep,rfl⟩:=e4;obtain⟨a,ha,rfl⟩:=r2.mono E3.pre;cases Q0 r3;obtain⟨vs,q1,rr⟩:=R3.h.ob n a _ ha eo
   refine .inl ⟨a,vs,j,p,rfl,rfl,q1,by rw [<-rr.length];exact ep,?_⟩
   obtain⟨R',E'⟩:=R3.put (o:=.lst (xs.set p u)) (ho:=.lst (vs.set p v)) ha ⟨_,Qf,RUs.set p (r1.mono fun n a e=>E3.pre n a (E2.pre n a e)) rr⟩;exact q α3 σ _ (((E1.trans E2 R2.h).trans E3 R3.h).trans E' R'.h) R' rs3
  ·rename_i x px y py ht;obtain⟨kt,pt,rfl⟩:=QgA ht;split at h
   case isFalse=>cases h
   rename_i c;simp only [Bool.and_eq_true,decide_eq_true_eq]at c;obtain⟨⟨lx,ly⟩,nxy⟩:=c;simp only [Option.bind_eq_some_iff]at h;obtain⟨i,hi,j,hj,h⟩:=h
   have kx:X.env.scope.names.lookup x=some .local:=by rw [g.sc];exact Qat lx
   have ky:X.env.scope.names.lookup y=some .local:=by rw [g.sc];exact Qat ly
   have ix:X.N[i]?=some x:=by rw [g.N];exact Zl hi
   have iy:X.N[j]?=some y:=by rw [g.N];exact Zl hj
   split at h
   ·cases h
   ·split at h
    case isFalse=>cases h
    rename_i nt;simp only [Option.map_eq_some_iff]at h;obtain⟨e',he,rfl⟩:=h;refine Z7 (QgT (S.e d e e' he) (QdM g.calm (ZB (YL g.nd ix (.inl kx) (.inr kx)) (ZB (YL g.nd iy (.inl ky) (.inr ky)) QaZ))) (QiB he) (Qal nt) rfl) ?_;rintro D σ H ⟨α,ρ,hs,fl,ρ',hs',rs,R,e,q⟩;simp only [ex]at e;obtain⟨u,h1,e1,e⟩:=Qd e;simp only [Option.map_eq_some_iff]at e;obtain⟨ρ2,e2,e⟩:=e;cases e;refine TI.run rs R e1 fun α1 v H1 E1 R1 r1 rs1=>?_;exact Z8 (t:=.pair i j) R1 rs1 r1 e2 fun σ2 r2=>q α1 σ2 H1 E1 R1 r2
  ·cases h
 | _=>exact nomatch (show(none:Option Iv.S)=some _ from h)
theorem QlI{st:Stmt}{s0 s':S}(hs:QoM m C st s0=some s')(h:∀d,PS X st (TIS T A X.K (ex T cf d s0)))(d:Nat):PS X st (TIS T A X.K (ex T cf d s')):=by
 cases hs;exact h d
theorem QhT(SS:SndS T A C X cf m)(d:Nat)(sts:List Stmt)(irs:List S)(h:compSs (m+1) C sts=some irs):PSs X sts (TIS T A X.K (exs T cf d irs)):=by
 cases d with
 | zero=>exact QgE Qk6
 | succ d =>
  cases sts with
  | nil =>
   cases h
   exact Qhn Qh7 fun D σ H ⟨α,ρ,hs,fl,ρ',hs',rs,R,e,q⟩=>by cases e;exact q α σ H Ext.refl R rs
  | cons st r =>
   simp only [compSs,Option.bind_eq_some_iff]at h;obtain⟨s0,hs0,s',hs,r',hr,h⟩:=h;cases h;refine Qhn (QfR (QlI hs (fun d=>SS.s d st s0 hs0) d) (SS.ss d r r' hr)) ?_;rintro D σ H ⟨α,ρ,hs,fl,ρ',hs',rs,R,e,q⟩;simp only [exs]at e;split at e
   ·rename_i ρ1 h1 e1;exact TIS.run rs R e1 fun α1 σ1 H1 E1 R1 rs1=>TIS.run rs1 R1 e fun α2 σ2 H2 E2 R2 rs2=>q α2 σ2 H2 (E1.trans E2 R2.h) R2 rs2
   ·rename_i n1;refine TIS.run rs R e fun α1 σ1 H1 E1 R1 rs1=>?_
    cases fl with
    | next=>exact absurd e (n1 _ _)
    | cont=>exact q α1 σ1 H1 E1 R1 rs1
    | brk=>exact q α1 σ1 H1 E1 R1 rs1
    | ret u=>exact q α1 σ1 H1 E1 R1 rs1
theorem Qol(bX:Bd X)(g:GX T A C X)(fl:∀x,X.fn x=true\/X.env.scope.names.lookup x=some .local)(F:Fc X T A cf k)(hr:Room (k+1) X.A):∀m,SndS T A C X cf m
 | 0=>⟨fun d st ir h=>by first | exact nomatch (show(none:Option Iv.S)=some _ from h) | simp [Yq]at h,fun d sts irs h=>by exact nomatch (show(none:Option (List Iv.S))=some _ from h)⟩
 | m+1=>by
  have SS:=Qol bX g fl F hr m;exact⟨Qj9 bX F (hr.mono (Nat.le_succ k)) (QiW hr) g fl (QhR m g F hr) SS,QhT SS⟩
end
end Iv
namespace Iv
open PySem PySem.Spec PyProof.Rows L2
structure Top(T:Tbl)(A:Adr)(K:PySem.W.Frag)(mg:Str->Option Value)(gl:List (Str×G))(bl:List Str):Prop where
 txt:Txt T A K mg
 gfn:∀x i,gl.lookup x=some (.fn i)->mg x=some (.ref (A.f i))
 gcl:∀x i,gl.lookup x=some (.cls i)->mg x=some (.ref (A.c i))
 gco:∀x k,gl.lookup x=some (.con k)->mg x=some (.ref (A.k k))
 gtx:∀x t,gl.lookup x=some (.txt t)->∃k,mg x=some (.str ⟨t.toArray⟩ k)
 blt:∀x,¬bl.contains x=false->mg x=none
noncomputable def Qcm(T:Tbl)(gl:List (Str×G))(bl:List Str):Prop:=∀(i:Nat) (F:Fn),T.fns[i]?=some F->∃m,compSs m ⟨T,F.N,(Qb F.st).names,gl,bl,F.lc⟩ (Qk F.st)=some F.body
section
variable {P:Program}{w:World}{K:PySem.W.Frag}{mg:Str->Option Value}{base:Heap}{T:Tbl}{A:Adr}{gl:List (Str×G)}{bl:List Str}
theorem QbE{α:List Addr}{us:List U}{vs:List V}{N:List Str}{n:Nat}(r:RUs A α us vs)(hn:N.length=n):RS A α (QmR us n) (L2.start N vs):=by
 unfold QmR L2.start;have l:=r.length
 refine⟨by simp [l,hn],fun i u e=>?_⟩
 by_cases hi:i<us.length
 ·rw [List.getElem?_append_left (by simpa using hi),List.getElem?_map]at e
  rw [List.getElem?_append_left (by simpa [<-l]using hi),List.getElem?_map]
  cases q:us[i]? with
  | none=>rw [q]at e;cases e
  | some x =>
   rw [q]at e;cases e;obtain⟨v,h1,h2⟩:=r.get q
   exact⟨v,by rw [h1];rfl,h2⟩
 ·rw [List.getElem?_append_right (by simpa using Nat.le_of_not_lt hi),List.getElem?_replicate]at e
  split at e<;>cases e
theorem QcQ{n:Nat}:∀f us hs r,Qa T n f us hs=some r->∃F,T.fns[f]?=some F/\us.length=F.np:=by
 intro f us hs r h
 cases n with
 | zero=>cases h
 | succ n =>
  simp only [Qa]at h;split at h
  ·cases h
  ·rename_i F e;split at h
   ·rename_i l;exact⟨F,e,l⟩
   ·cases h
noncomputable def XOk(P:Program)(w:World)(K:PySem.W.Frag)(mg:Str->Option Value)(base:Heap)(T:Tbl)(A:Adr)(r:Nat):Prop:=∀f F,T.fns[f]?=some F->∃fd,FnOk P w K mg base (CXw P w) r (A.f f) fd F.ps (spX T A K T.xf f)/\Binds K fd F.ps []/\PySem.W.keepIn K (.ref (A.f f))=true
theorem Qph(tp:Top T A K mg gl bl)(h:T.xf=fun _ _ _=>none):XOk P w K mg base T A 0:=fun f F hF=>by
 obtain⟨fd,fn,b,_⟩:=tp.txt.fn f F hF
 have no:∀vs H Q E,¬spX T A K T.xf f vs H Q E:=fun vs H Q E z=>by
  obtain⟨α,us,hs,u,hs',_,_,e,_⟩:=z;rw [h]at e;cases e
 exact⟨fd,⟨fun vs H Q E h=>absurd h (no vs H Q E),fun A outer s H args us vs Q E _ _ _ _ h=>absurd h (no vs H Q E)⟩,b,fn.kp⟩
theorem Qey{rm:Nat}(tp:Top T A K mg gl bl)(tab:Qbq P w T A K)(hb:Qcm T gl bl)(hX:XOk P w K mg base T A rm):∀n f F,T.fns[f]?=some F->∃fd,FnOk P w K mg base CX0 (rm+2*n) (A.f f) fd F.ps (spC T A K (Qa T n) f)/\Binds K fd F.ps []/\PySem.W.keepIn K (.ref (A.f f))=true/\FunD K F.name F.qual F.st (A.f f) fd
 | 0,f,F,hF=>by
  obtain⟨fd,fn,b,_⟩:=tp.txt.fn f F hF
  have no:∀vs H Q E,¬spC T A K (Qa T 0) f vs H Q E:=fun vs H Q E h=>by
   obtain⟨α,us,hs,u,hs',_,_,e,_⟩:=h;cases e
  exact⟨fd,⟨fun vs H Q E h=>absurd h (no vs H Q E),fun A outer s H args us vs Q E _ _ _ _ h=>absurd h (no vs H Q E)⟩,b,fn.kp,fn⟩
 | n+1,f,F,hF=>by
  obtain⟨fd,fn,b,sc,lp,lN⟩:=tp.txt.fn f F hF;obtain⟨m,hm⟩:=hb f F hF;refine⟨fd,?_,b,fn.kp,fn⟩;refine fn.ok (k:=rm+2*n+1) sc (fun vs H Q E h=>?_) (fun cdv A' outer s H vs Q E hr h=>?_)
  ·obtain⟨α,us,hs,u,hs',r,_,_,⟨F',h1,h2⟩,_⟩:=h;rw [hF]at h1;cases h1;rw [<-r.length,h2,lp]
  ·obtain⟨α,us,hs,u,hs',r,R,e,_,q⟩:=h;refine⟨TIS T A K (exs T (Qa T n) dd F.body),?_,?_⟩
   ·have gx:GX T A ⟨T,F.N,(Qb F.st).names,gl,bl,F.lc⟩ (Qhh CX0 P w K mg base F.N F.qual (Qb F.st) (A.f f) cdv A' outer s H E).nox :=
     ⟨rfl,rfl,sc.nd,rfl,rfl,sc.kind,rfl,tp.gfn,tp.gcl,tp.gco,tp.gtx,tp.blt,tp.txt,tab⟩
    have fc:Fc (Qhh CX0 P w K mg base F.N F.qual (Qb F.st) (A.f f) cdv A' outer s H E).nox T A (Qa T n) (rm+2*n):=⟨fun f' F' h'=>by
     obtain⟨fd',G,b',kp,_⟩:=Qey tp tab hb hX n f' F' h'
     exact⟨fd',G,b',kp⟩,QcQ,fun i D F' hD h'=>by
     obtain⟨fd',G,_,kp,fn'⟩:=Qey tp tab hb hX n i F' h';obtain⟨fd2,x,q,st,fn2,dk,hp⟩:=tp.txt.df i D hD;have e:=FunD.same fn2 fn';subst e;rw [(hp F' h').1]at G
     exact⟨fd2,G,kp,dk⟩,fun f' F' h'=>by
     obtain⟨fd',G,b',kp⟩:=hX f' F' h'
     exact⟨fd',G.mono (Nat.le_add_right _ _),b',kp⟩⟩
    exact(Qol ⟨rfl,rfl,rfl⟩ gx (fun _=>.inl rfl) fc hr m).ss dd (Qk F.st) F.body hm
   ·simp only [Qa,hF]at e;split at e
    case isFalse=>cases e
    unfold fin at e;split at e
    ·rename_i u' ρ' h1 e1;cases e;exact TIS.run (QbE r lN) R e1 fun α1 σ1 H1 E1 R1 rs1 v rv=>q α1 v H1 E1 R1 rv
    ·rename_i ρ' h1 e1;cases e;exact TIS.run (QbE r lN) R e1 fun α1 σ1 H1 E1 R1 rs1=>q α1 .non H1 E1 R1 rfl
    ·cases e
end
end Iv
namespace Iv
open PySem PySem.Spec PyProof.Rows L2
inductive AllI{α:Type}(P:Nat->α->Prop):Nat->List α->Prop where
 | nil {n:Nat}:AllI P n []
 | cons {n:Nat} {a:α} {r:List α}:P n a->AllI P (n+1) r->AllI P n (a::r)
theorem AllI.get{α:Type}{P:Nat->α->Prop}:∀{n:Nat} {l:List α},AllI P n l->∀i a,l[i]?=some a->P (n+i) a
 | _,_,.nil,i,a,e=>by simp at e
 | n,_,.cons h t,0,a,e=>by
  simp at e;subst e;exact h
 | n,_,.cons h t,i+1,a,e=>by
  have:=AllI.get t i a (by simpa using e)
  rw [Nat.add_assoc,Nat.add_comm 1 i]at this;exact this
theorem AllI.mem{α:Type}{P:α->Prop}{n:Nat}{l:List α}(h:AllI (fun _ a=>P a) n l){a:α}(m:a∈l):P a:=by
 obtain⟨i,e⟩:=List.getElem?_of_mem m;exact AllI.get h i a e
theorem AllI.look{κ β:Type}[BEq κ][LawfulBEq κ]{P:κ->β->Prop}{n:Nat}{l:List (κ×β)}(h:AllI (fun _ p=>P p.1 p.2) n l){k:κ}{b:β}(e:l.lookup k=some b):P k b:=AllI.mem (P:=fun p=>P p.1 p.2) h (Yb e)
noncomputable def gvP(A:Adr)(mg:Str->Option Value)(x:Str):G->Prop
 | .fn i=>mg x=some (.ref (A.f i))
 | .cls i=>mg x=some (.ref (A.c i))
 | .con k=>mg x=some (.ref (A.k k))
 | .txt t=>∃k,mg x=some (.str ⟨t.toArray⟩ k)
section
variable {P:Program}{w:World}{K:PySem.W.Frag}{mg:Str->Option Value}{base:Heap}{T:Tbl}{A:Adr}{gl:List (Str×G)}{bl:List Str}
noncomputable def Qp6(A:Adr)(K:PySem.W.Frag)(k:Nat)(c:Co):Prop:=match c with
 | Co.tup xs=>∃vs,RUs A [] xs vs/\∀H,SqT K H (A.k k) vs
 | Co.lst xs=>∃vs,RUs A [] xs vs/\∀H,SqL K H (A.k k) vs
 | Co.tab _=>True
theorem QjT(fns:AllI (fun i (F:Fn)=>∃fd,FunD K F.name F.qual F.st (A.f i) fd/\Binds K fd F.ps []/\FnScope F.N F.ps (Qb F.st)/\F.ps.length=F.np/\F.N.length=F.nN) 0 T.fns)
  (cls:AllI (fun i C=>ClOk T A K i C) 0 T.cls)
  (fm:(T.fns'.all fun x=>!(T.mns.contains x))=true) (fd:T.fns'.Nodup)
  (isi:AllI (fun _ p=>PySem.W.kitOne K (tyW A p.1.1) (tyW A p.1.2)=some p.2) 0 T.isi)
  (co:AllI (Qp6 A K) 0 T.cons)
  (dfs:AllI (fun _ (p:Nat×Df)=>∃fd x q st,FunD K x q st (A.f p.1) fd/\Qmk A K fd p.2/\∀F,T.fns[p.1]?=some F->F.ps=p.2.ps/\F.np=p.2.np) 0 T.dfl)
  (g:AllI (fun _ (p:Str×G)=>gvP A mg p.1 p.2) 0 gl)
  (b:AllI (fun _ x=>mg x=none) 0 bl)
  (er : AllI (fun _ c => ErrCls K (A.c c) /\ PySem.W.excIn K (A.c c) QjO "ValueError.__new__" = true) 0 T.ers)
  (es:AllI (fun _ (p:Nat×Nat)=>PySem.W.exmOne K (.ref (A.c p.1)) (.ref (A.c p.2))=some true) 0 T.esb):Top T A K mg gl bl where
 txt:={
  fn:=fun i F e=>by simpa using fns.get i F e
  df:=fun i D e=>AllI.look (P:=fun i (D:Df)=>∃fd x q st,FunD K x q st (A.f i) fd/\Qmk A K fd D/\∀F,T.fns[i]?=some F->F.ps=D.ps/\F.np=D.np) dfs e
  cl:=fun i C e=>by simpa using cls.get i C e
  fm:=fun x m n=>by
   have:=List.all_eq_true.mp fm x m;simp at this;exact this n
  fd:=fd
  isi:=fun k t b e=>AllI.look (P:=fun(q:Ty×Ty) b=>PySem.W.kitOne K (tyW A q.1) (tyW A q.2)=some b) isi e
  co:=fun k c e=>by
   have:=co.get k c e;simp only [Nat.zero_add]at this;exact this
  er:=fun c h=>AllI.mem er (by simpa using h)
  es:=fun c c' h=>AllI.mem (P:=fun(p:Nat×Nat)=>PySem.W.exmOne K (.ref (A.c p.1)) (.ref (A.c p.2))=some true) es (a:=(c,c')) (by simpa using h) }
 gfn:=fun x i e=>AllI.look (P:=fun x (q:G)=>gvP A mg x q) g e
 gcl:=fun x i e=>AllI.look (P:=fun x (q:G)=>gvP A mg x q) g e
 gco:=fun x i e=>AllI.look (P:=fun x (q:G)=>gvP A mg x q) g e
 gtx:=fun x i e=>AllI.look (P:=fun x (q:G)=>gvP A mg x q) g e
 blt:=fun x h=>by
  have:bl.contains x=true:=by cases q:bl.contains x with | true=>rfl | false=>exact absurd q h
  exact AllI.mem (P:=fun x=>mg x=none) b (by simpa using this)
theorem Qe5(h:AllI (fun _ (F:Fn)=>compSs 100 ⟨T,F.N,(Qb F.st).names,gl,bl,F.lc⟩ (Qk F.st)=some F.body) 0 T.fns):Qcm T gl bl:=fun i F e=>⟨100,h.get i F e⟩
noncomputable def QfF(K:PySem.W.Frag):Sp:=fun vs H Q _=>∃(a:Addr) (ns:List Int),vs=[.ref a]/\SqL K H a (ns.map V.int)/\Qmj H/\ns.length<=63/\∀H',Q (.bl true) H'
noncomputable def Abs:U->Int->Prop:=fun u i=>∃r m,u=.int r m/\Cg i r m
theorem Abs.rus:∀{s:List U} {ns:List Int},Paired Abs s ns->RUs A [] s (ns.map V.int)
 | _,_,.nil=>.nil
 | _,_,.cons (b:=i) ⟨r,m,e,c⟩ t=>.cons (by subst e;exact⟨i,rfl,c⟩) (Abs.rus t)
theorem QM{x qual:Str}{st:Stmt}{f:Addr}{oc:Value}{od an:Option Addr}{osl:Array (Option Value)}{dV kV doc pm cdv ct:Value}(l:K.lookup f=some ⟨oc,od,.func (PySem.W.fnOf x qual (Qm st) (Qk st) (Qb st) dV kV doc pm an cdv ct),osl⟩)
  (c:PySem.W.codeIn K cdv qual=true) (k:PySem.W.keepIn K (.ref f)=true):FunD K x qual st f (PySem.W.fnOf x qual (Qm st) (Qk st) (Qb st) dV kV doc pm an cdv ct):=⟨⟨oc,od,dV,kV,doc,pm,an,cdv,ct,osl,rfl,l,c⟩,k⟩
theorem Q2{x qual:Str}{st:Stmt}{f:Addr}{fd:FuncData}{ps:List Str}(F:FunD K x qual st f fd)(h:∀us:List Value,us.length=ps.length->bindArgs fd ⟨us,[]⟩=pure (ps.zip us)):Binds K fd ps []:=.all h
theorem Qlh{tb:List U->Tbl}{adr:Addr->Adr}{L n r:Nat}{F:Fn}{x:Str}{fd:FuncData}(hF:∀s,(tb s).fns[L]?=some F)(hs:∀s,(tb s).scr=s)(hps:F.ps=[x])(hnp:F.np=1)
  (hA:∀a,(adr a).s=a) (hf:∀a,(adr a).f=(adr 0).f)
  (tp:∀s a,Top (tb s) (adr a) K mg gl bl) (tab:∀s a,Qbq P w (tb s) (adr a) K) (hb:∀s,Qcm (tb s) gl bl) (hX:∀s a,XOk P w K mg base (tb s) (adr a) r)
  (hfun:FunD K F.name F.qual F.st ((adr 0).f L) fd)
  (comp:∀ns:List Int,ns.length<=63->∃s hs',Paired Abs s ns/\Qa (tb s) n L [.scr] []=some (.bl true,hs')):
  FnOk P w K mg base CX0 (r+2*n) ((adr 0).f L) fd [x] (QfF K):=by
 refine⟨fun vs H Q E ⟨a,ns,h,_⟩=>by rw [h];rfl,fun A0 outer s H args us vs Q E hr e0 hbd rel ⟨a,ns,h,hS,hO,hl,q⟩=>?_⟩
 obtain⟨sc,hs',pr,hc⟩:=comp ns hl;obtain⟨fd',G,_,_,hfun'⟩:=Qey (base:=base) (tp sc a) (tab sc a) (hb sc) (hX sc a) n L F (hF sc);rw [hf a]at G hfun';have ef:=FunD.same hfun hfun';subst ef;rw [hps]at G;refine G.run A0 outer s H args us vs Q E hr e0 hbd rel ?_;subst h
 refine⟨[],[.scr],[],.bl true,hs',.cons (show V.ref a=V.ref (adr a).s by rw [hA]) .nil,⟨⟨rfl,(fun i j a e _=>by simp at e),fun n b o e _=>by simp at e⟩,ns.map V.int,by rw [hs];exact Abs.rus pr,?_⟩,hc,⟨F,hF sc,hnp.symm⟩,fun α' v H' _ _ rv=>?_⟩
 ·rw [hA]
  rcases hS with(h | ⟨o,h⟩) | h
  ·rcases hO a with z | ⟨o,xs,z⟩
   ·rw [h]at z;cases z
   ·rw [h]at z;cases z
  ·exact .inl ⟨o,h⟩
  ·exact .inr h
 ·have:v=.bl true:=rv;subst this;exact q H'
end
end Iv
namespace Iv
open PySem PySem.W PySem.Spec PyProof.Rows
noncomputable def YD(tb:String->Option Builtin)(p:Program)(w:World)(n₀:Nat)(ann:Option Value):Nat->SharedT->Thread->Option SharedT
 | 0,_,_=>none
 | n+1,s,t=>match through t with
  | true=>some s
  | false=>match stepOk n₀ ann t with
   | false=>none
   | true=>match stepT (denote tb) p w s t with
    | some (s',t')=>YD tb p w n₀ ann n s' t'
    | none=>none
theorem JZ{tb:String->Option Builtin}{p:Program}{w:World}{n₀:Nat}{ann:Option Value}:∀{n:Nat} {s s':SharedT} {t:Thread},YD tb p w n₀ ann n s t=some s'->topRun tb p w n₀ ann n s.abs t=some s'.abs
 | 0,_,_,_,h=>by cases h
 | n+1,s,s',t,h=>by
  unfold YD at h;unfold topRun
  cases he:through t with
  | true=>rw [he]at h;cases h;rfl
  | false =>
   rw [he]at h
   cases hk:stepOk n₀ ann t with
   | false=>rw [hk]at h;cases h
   | true =>
    rw [hk]at h
    cases hs:stepT (denote tb) p w s t with
    | none=>rw [hs]at h;cases h
    | some r=>obtain⟨s₂,t₂⟩:=r;rw [hs]at h;rw [stepT_spec hs];exact JZ h
structure BootT where
 t:Params->BT
 n:Nat
 life:Life
noncomputable def BootT.at(B:BootT)(w:World)(os:OsState):SharedT:=⟨B.t w.params,B.n,B.life,Array.mk [],boot_drawn,boot_toks,os⟩
noncomputable abbrev RunT(p q:Program)(loose:List Str)(Xt:Shared->Bool){α:Type}(Yf:Shared->α)(Ya:World->α)(N:Nat)(g0:Bool)(B:BootT)(m₀:Nat)(ann:Option Value)(w:World):Prop :=
 ∀os:OsState,(YD treeTable p w m₀ ann N (B.at w os) (topStub p)).map (fun s=>((staticsOk (importedModules p.main.body) (boot_heap w.params) s.abs.heap&&namesBound p s.abs.heap&&gensDone s.abs&&laidKept (boot_heap w.params) s.abs.heap),openSeen q loose (importedModules p.main.body) Xt g0 s.abs,Yf s.abs))=some (true,openGood q loose,Ya w)
theorem left_tree{p q:Program}{loose:List Str}{Xt:Shared->Bool}{α:Type}{Yf:Shared->α}{Ya:World->α}{N:Nat}{g0:Bool}{B:BootT}{m₀:Nat}{ann:Option Value}
  (op:opening p=plainProg p.main.scope.names) (hN:Nat.ble 600 N=true) (fm:∀s,fenceModules? p s=some s)
  (hB:∀w:World,absHeap (B.t w.params) B.n B.life=boot_heap w.params)
  (size:∀w:World,((boot_heap w.params).isNs mainGlobals,(boot_heap w.params).objs.size,(boot_heap w.params).nsMap mainGlobals "__annotations__")=(true,m₀,ann))
  (run:∀w,RunT p q loose Xt Yf Ya N g0 B m₀ ann w):LeftO p q loose Xt Yf Ya N g0:=fun w=>by
 obtain⟨⟨h,gs,d,k,os⟩,e,e'⟩:=Option.map_eq_some_iff.mp (boot_open (N:=N) op hN fm w)
 obtain⟨rfl,rfl,rfl,rfl⟩:h=boot_heap w.params/\gs=Array.mk []/\d=boot_drawn/\k=boot_toks:=by simpa using e'
 obtain⟨z1,z2,z3⟩:_/\_/\_:=by simpa only [Prod.mk.injEq]using size w
 obtain⟨s1,r,l⟩:=Option.map_eq_some_iff.mp (run w os)
 obtain⟨l1,l2,l3⟩:_/\_/\_:=by simpa only [Prod.mk.injEq]using l
 have r:=JZ r
 have ab:(B.at w os).abs=⟨boot_heap w.params,Array.mk [],boot_drawn,boot_toks,os⟩:=by
  unfold BootT.at SharedT.abs;rw [hB w]
 rw [ab]at r
 have t:topFrom treeTable p w N ⟨boot_heap w.params,Array.mk [],boot_drawn,boot_toks,os⟩=some s1.abs:=by
  unfold topFrom;dsimp only;rw [z1,z2,z3,r]
  show(match staticsOk (importedModules p.main.body) (boot_heap w.params) s1.abs.heap&&namesBound p s1.abs.heap&&gensDone s1.abs&&laidKept (boot_heap w.params) s1.abs.heap with | true=>_ | false=>_)=_
  rw [l1]
 unfold openEnds;rw [e];show(topFrom treeTable p w N _).map _=_;rw [t];exact congrArg some (Prod.ext l2 l3)
section
variable (p q:Program)(loose:List Str)(Xt:Shared->Bool)(N:Nat)(g0:Bool)(B:BootT)(m₀:Nat)(ann:Option Value)
noncomputable abbrev Qoa(w:World)(os:OsState):Option SharedT:=YD treeTable p w m₀ ann N (B.at w os) (topStub p)
noncomputable abbrev PC(as:List Addr)(bs:List (Option Obj))(w:World):Prop:=∀os:OsState,(Qoa p N B m₀ ann w os).map (fun s=>as.map fun a=>s.abs.heap.get? a)=some bs
variable {p q loose Xt N g0 B m₀ ann}
noncomputable abbrev PL(p q:Program)(loose:List Str)(Xt:Shared->Bool)(N:Nat)(g0:Bool)(B:BootT)(m₀:Nat)(ann:Option Value)(w:World):Prop:=∀os:OsState,(Qoa p N B m₀ ann w os).map (fun s=>((staticsOk (importedModules p.main.body) (boot_heap w.params) s.abs.heap&&namesBound p s.abs.heap&&gensDone s.abs&&laidKept (boot_heap w.params) s.abs.heap),openSeen q loose (importedModules p.main.body) Xt g0 s.abs))=some (true,openGood q loose)
end
noncomputable abbrev PX(p:Program)(N:Nat)(B:BootT)(m₀:Nat)(ann:Option Value){α:Type}(f:Shared->α)(a:α)(w:World):Prop:=∀os:OsState,(Qoa p N B m₀ ann w os).map (fun s=>f s.abs)=some a
noncomputable abbrev f1(q:Program)(s:Shared):=seen ((recsOf q).map (·.name)) (ownsOf q) [] { s with gens:=#[] }
noncomputable abbrev f2(s:Shared):=s.heap.bltView
noncomputable abbrev f3(q:Program)(loose:List Str)(s:Shared):Bool:=s.heap.keysOk (looseW q loose) ((recsOf q).map (·.name)) ((litsOf q).map (·.1)) ((clssOf q (looseW q loose)).map (·.name))
noncomputable abbrev f4(q:Program)(mods:List Str)(Xt:Shared->Bool)(g0:Bool)(s:Shared):Bool:=s.heap.accountedOkI mods&&s.heap.isNs mainGlobals&&s.heap.isNs builtinsNs&&tablesOk q s.heap&&Xt s&&(if g0 then s.gens.size==0 else !leftWithCleanup s.gens)
noncomputable abbrev f5(q:Program)(s:Shared):Bool:=tabsOk q s
noncomputable abbrev f6(q:Program)(loose:List Str)(s:Shared):=(pinSeenD q (drecsOf q) s,plainSeenE q (looseW q loose) s,plainSeenD q loose s)
noncomputable abbrev f7(q:Program)(loose:List Str)(s:Shared):=(wideSeen q s,clsSeenW q loose s)
noncomputable abbrev fA(p:Program)(w:World)(s:Shared):Bool:=staticsOk (importedModules p.main.body) (boot_heap w.params) s.heap&&namesBound p s.heap&&gensDone s&&laidKept (boot_heap w.params) s.heap
noncomputable abbrev Lk1(p q:Program)(N:Nat)(B:BootT)(m₀:Nat)(ann:Option Value)(w:World):Prop:=PX p N B m₀ ann (fun s=>(fA p w s,f1 q s,f2 s)) (true,expectedOf q,bltViewBooted) w
noncomputable abbrev Lk2(p q:Program)(loose:List Str)(Xt:Shared->Bool)(N:Nat)(g0:Bool)(B:BootT)(m₀:Nat)(ann:Option Value)(w:World):Prop:=PX p N B m₀ ann (fun s=>(f3 q loose s,f4 q (importedModules p.main.body) Xt g0 s,f5 q s,f6 q loose s,f7 q loose s)) (true,true,true,(pinGoodD (drecsOf q),plainGoodE q (looseW q loose),plainGoodD q loose),(wideGood q,clsGoodW q loose)) w
noncomputable abbrev Lk3(p q:Program)(loose:List Str)(N:Nat)(B:BootT)(m₀:Nat)(ann:Option Value)(w:World):Prop:=PX p N B m₀ ann (fun s=>(f3 q loose s,f5 q s)) (true,true) w
noncomputable abbrev Lk5(p q:Program)(Xt:Shared->Bool)(N:Nat)(g0:Bool)(B:BootT)(m₀:Nat)(ann:Option Value)(w:World):Prop:=PX p N B m₀ ann (f4 q (importedModules p.main.body) Xt g0) true w
noncomputable abbrev Lk4(p q:Program)(loose:List Str)(N:Nat)(B:BootT)(m₀:Nat)(ann:Option Value)(w:World):Prop:=PX p N B m₀ ann (fun s=>(f6 q loose s,f7 q loose s)) ((pinGoodD (drecsOf q),plainGoodE q (looseW q loose),plainGoodD q loose),(wideGood q,clsGoodW q loose)) w
section
variable {p:Program}{w:World}{m₀:Nat}{ann:Option Value}{α:Type}{F:Shared->α}{a:α}{env:Env}{q:Pos}
end
noncomputable abbrev QmF(p q:Program)(loose:List Str)(Xt:Shared->Bool){α:Type}(Yf:Shared->α)(g0:Bool)(w:World)(s:Shared):=((staticsOk (importedModules p.main.body) (boot_heap w.params) s.heap&&namesBound p s.heap&&gensDone s&&laidKept (boot_heap w.params) s.heap),openSeen q loose (importedModules p.main.body) Xt g0 s,Yf s)
noncomputable abbrev vF(p q:Program)(w:World)(s:SharedT):=(fA p w s.abs,f1 q s.abs,f2 s.abs)
noncomputable abbrev gF(q:Program):=(true,expectedOf q,bltViewBooted)
noncomputable abbrev vK(p q:Program)(loose:List Str)(Xt:Shared->Bool)(g0:Bool)(s:SharedT):=(f3 q loose s.abs,f4 q (importedModules p.main.body) Xt g0 s.abs,f5 q s.abs)
noncomputable abbrev vL(q:Program)(loose:List Str)(s:SharedT):=(f6 q loose s.abs,f7 q loose s.abs)
noncomputable abbrev gL(q:Program)(loose:List Str):=((pinGoodD (drecsOf q),plainGoodE q (looseW q loose),plainGoodD q loose),(wideGood q,clsGoodW q loose))
end Iv
namespace Iv
open PySem
section
variable {T:Tbl}{cf:Cf}{d:Nat}{ρ:Rho}{hs h1:Hs}{α β:Type}
theorem Qo{a:α}{f:α->Hs->Option β}:bd (some (a,h1)) f=f a h1:=rfl
theorem Q3:exs T cf (d+1) [] ρ hs=some (.next,ρ,hs):=by rw [exs]
theorem QL{s:S}{r:List S}:exs T cf (d+1) (s::r) ρ hs=(match ex T cf d s ρ hs with
   | some (.next,ρ1,h1)=>exs T cf d r ρ1 h1
   | x=>x):=by rw [exs]<;>rfl
theorem Zo{e:E}:ex T cf (d+1) (.expr e) ρ hs=bd (ev T cf d e ρ hs) fun _ h1=>some (.next,ρ,h1):=by rw [ex]
theorem Yh{i:Nat}{e:E}:ex T cf (d+1) (.set i e) ρ hs=bd (ev T cf d e ρ hs) fun u h1=>some (.next,ρ.set i (some u),h1):=by rw [ex]
theorem Qfm{e:E}:ex T cf (d+1) (.ret e) ρ hs=bd (ev T cf d e ρ hs) fun u h1=>some (.ret u,ρ,h1):=by rw [ex]
theorem Yj{t:E}{a b:List S}:ex T cf (d+1) (.ite t a b) ρ hs=bd (evT T cf d t ρ hs) fun c h1=>if c=true then exs T cf d a ρ h1 else exs T cf d b ρ h1:=by
 rw [ex]
 cases h:evT T cf d t ρ hs with
 | none=>rfl
 | some p=>obtain⟨c,h1⟩:=p;cases c<;>rfl
theorem Qbs{t:Tg}{s:Src}{body:List S}:ex T cf (d+1) (.loop t s body) ρ hs=bd (Ze T (ev T cf d) ρ s hs) fun w h1=>ZE T w t (exs T cf d body) (QZ T w h1) 0 ρ h1:=by rw [ex]
theorem Qcn{o i e:E}:ex T cf (d+1) (.put o i e) ρ hs=bd (ev T cf d e ρ hs) fun u h1=>bd (ev T cf d o ρ h1) fun x h2=>bd (ev T cf d i ρ h2) fun k h3=>(QaX x k u h3).map fun h4=>(.next,ρ,h4):=by rw [ex]
theorem y_c{u:U}:ev T cf (d+1) (.c u) ρ hs=some (u,hs):=by rw [ev]
theorem Qi{i:Nat}:ev T cf (d+1) (.var i) ρ hs=(match ρ[i]? with | some (some u)=>some (u,hs) | _=>none):=by rw [ev]<;>rfl
theorem Yi{o:Operator}{a b:E}:ev T cf (d+1) (.op o a b) ρ hs=bd (ev T cf d a ρ hs) fun u h1=>bd (ev T cf d b ρ h1) fun w h2=>opU o u w h2:=by rw [ev]
theorem Qmn{a:E}:ev T cf (d+1) (.neg a) ρ hs=bd (ev T cf d a ρ hs) fun u h1=>(match u with | .int i m=>some (.int (-i) m,h1) | _=>none):=by rw [ev]<;>rfl
theorem Q6{o:CmpOp}{a b:E}:ev T cf (d+1) (.cmp o a b) ρ hs=bd (ev T cf d a ρ hs) fun u h1=>bd (ev T cf d b ρ h1) fun w h2=>(Zn T o u w h2).map fun c=>(.bl c,h2):=by rw [ev]
theorem Qmm{a:E}:ev T cf (d+1) (.not a) ρ hs=bd (ev T cf d a ρ hs) fun u h1=>(Zj T u h1).map fun c=>(.bl (!c),h1):=by rw [ev]
theorem ZP{es:List E}:ev T cf (d+1) (.tup es) ρ hs=bd (evs (ev T cf d) ρ es hs) fun us h1=>some (.ref h1.length,h1++[.tup us]):=by rw [ev]
theorem Zs{es:List E}:ev T cf (d+1) (.lst es) ρ hs=bd (evs (ev T cf d) ρ es hs) fun us h1=>some (.ref h1.length,h1++[.lst us]):=by rw [ev]
theorem Zq{a b:E}:ev T cf (d+1) (.ix a b) ρ hs=bd (ev T cf d a ρ hs) fun u h1=>bd (ev T cf d b ρ h1) fun w h2=>(QH T u w h2).map fun x=>(x,h2):=by rw [ev]
theorem Qjv{a:E}{lo hi:Option E}:ev T cf (d+1) (.sl a lo hi) ρ hs=bd (ev T cf d a ρ hs) fun u h1=>bd (evO (ev T cf d) ρ lo h1) fun l h2=>bd (evO (ev T cf d) ρ hi h2) fun r h3=>slU T u l r h3:=by rw [ev]
theorem QY{f:Nat}{es:List E}:ev T cf (d+1) (.call f es) ρ hs=bd (evs (ev T cf d) ρ es hs) fun us h1=>cf f us h1:=by rw [ev]
theorem Yy{b:Bi}{es:List E}:ev T cf (d+1) (.bi b es) ρ hs=bd (evs (ev T cf d) ρ es hs) fun us h1=>biU T b us h1:=by rw [ev]
theorem Qfn{a:E}{t:Ty}:ev T cf (d+1) (.isi a t) ρ hs=bd (ev T cf d a ρ hs) fun u h1=>(QcZ T t u h1).map fun b=>(.bl b,h1):=by rw [ev]
theorem Qco{b:Bm}{o:E}{es:List E}:ev T cf (d+1) (.bm b o es) ρ hs=bd (ev T cf d o ρ hs) fun u h1=>if QaV b u h1=true then bd (evs (ev T cf d) ρ es h1) fun us h2=>bmU T b u us h2 else none:=by rw [ev]
theorem QgG{s:Src}{b:Bool}{t:Option E}{el:E}:ev T cf (d+1) (.comp s b t el) ρ hs=bd (Ze T (ev T cf d) ρ s hs) fun w h1=>bd (QQ T (ev T cf d) (Z4 (evT T cf d) t) w b el ρ (QZ T w h1) 0 [] h1) fun us h2=>some (.ref h2.length,h2++[.lst us]):=by rw [ev]
theorem Qfo{a b:E}:ev T cf (d+1) (.and a b) ρ hs=bd (ev T cf d a ρ hs) fun u h1=>(match u with | .bl true=>ev T cf d b ρ h1 | .bl false=>some (.bl false,h1) | _=>none):=by rw [ev]<;>rfl
theorem QjE:ev T cf (d+1) .dnew ρ hs=some (.ref hs.length,hs++[.dic []]):=by rw [ev]
theorem Qbt{a:E}:evT T cf (d+1) (.not a) ρ hs=bd (evT T cf d a ρ hs) fun c h1=>some (!c,h1):=by rw [evT]
theorem JS{a b:E}:evT T cf (d+1) (.and a b) ρ hs=bd (evT T cf d a ρ hs) fun c h1=>if c=true then evT T cf d b ρ h1 else some (false,h1):=by rw [evT]
theorem Qho{a b:E}:evT T cf (d+1) (.or a b) ρ hs=bd (evT T cf d a ρ hs) fun c h1=>if c=true then some (true,h1)else evT T cf d b ρ h1:=by rw [evT]
theorem QP{o:CmpOp}{a b:E}:evT T cf (d+1) (.cmp o a b) ρ hs=bd (ev T cf d (.cmp o a b) ρ hs) fun u h1=>(Zj T u h1).map fun c=>(c,h1):=by rw [evT]<;>simp
theorem QjG{a:E}{t:Ty}:evT T cf (d+1) (.isi a t) ρ hs=bd (ev T cf d (.isi a t) ρ hs) fun u h1=>(Zj T u h1).map fun c=>(c,h1):=by rw [evT]<;>simp
theorem QaM{f:Nat}{es:List E}:evT T cf (d+1) (.call f es) ρ hs=bd (ev T cf d (.call f es) ρ hs) fun u h1=>(Zj T u h1).map fun c=>(c,h1):=by rw [evT]<;>simp
end
end Iv
namespace K30
open PySem Iv L2
noncomputable def top(i:Nat):Stmt:=PySem.Challenge.pw_stitchroom_k30_drawers.main.body.getD i (.Pass ⟨0,0,0,0⟩)
noncomputable def fldN:List Str:=[]
noncomputable def mthN:List Str:=[]
noncomputable def glo:List (Str×G):=([("drawers",.fn 0),("names_downward",.fn 1),("_law_cell_at",.fn 2),("_law_whole",.fn 3),("_law_name",.fn 4),("_law_listed",.fn 5),("_law_gives",.fn 6),("_law_row_end",.fn 7),("_law_put_by",.fn 8),("_law_picked",.fn 9),("_law_crossed",.fn 10),("_law_step",.fn 11),("_law_web",.fn 12),("_law_above",.fn 13),("_law_told",.fn 14),("law",.fn 15)]:List (Str×G))
noncomputable def QnW:List Str:=["len","int","tuple","list","bool","dict","isinstance","range","reversed","enumerate","max","sorted"]
noncomputable def QoL:List Co:=[]
noncomputable def QpA:List Cl:=[]
noncomputable def Qpj:List ((Ty×Ty)×Bool):=[]
noncomputable abbrev st0:Stmt:=top 1
noncomputable def N0:List Str:=["web","found","number","row","place","loop","parent"]
noncomputable abbrev st1:Stmt:=top 2
noncomputable def N1:List Str:=["web","names","number"]
noncomputable abbrev st2:Stmt:=top 4
noncomputable def N2:List Str:=["_law_script","_law_k"]
noncomputable abbrev st3:Stmt:=top 5
noncomputable def N3:List Str:=["_law_found"]
noncomputable abbrev st4:Stmt:=top 6
noncomputable def N4:List Str:=["_law_found"]
noncomputable abbrev st5:Stmt:=top 7
noncomputable def N5:List Str:=["_law_found"]
noncomputable abbrev st6:Stmt:=top 8
noncomputable def N6:List Str:=["_law_web_here","_law_parents","_law_cell","_law_lift","_law_side"]
noncomputable abbrev st7:Stmt:=top 9
noncomputable def N7:List Str:=["_law_web_here"]
noncomputable abbrev st8:Stmt:=top 10
noncomputable def N8:List Str:=["_law_web_here","_law_name_here","_law_more","_law_keeper","_law_row"]
noncomputable abbrev st9:Stmt:=top 11
noncomputable def N9:List Str:=["_law_web_here","_law_more","_law_gone","_law_keeper","_law_name_here","_law_some","_law_row","_law_at"]
noncomputable abbrev Qfi:Stmt:=top 12
noncomputable def N10:List Str:=["_law_web_here","_law_some","_law_more","_law_cut","_law_lift","_law_name_here"]
noncomputable abbrev Qfh:Stmt:=top 13
noncomputable def N11:List Str:=["_law_web_here","_law_cell","_law_kind","_law_more","_law_some","_law_k"]
noncomputable abbrev Qfg:Stmt:=top 14
noncomputable def N12:List Str:=["_law_script","_law_many","_law_web_here","_law_cell","_law_kept"]
noncomputable abbrev Qff:Stmt:=top 15
noncomputable def N13:List Str:=["_law_web_here","_law_found","_law_row","_law_place","_law_parent"]
noncomputable abbrev Qfe:Stmt:=top 16
noncomputable def N14:List Str:=["_law_told_here","_law_due","_law_name_here"]
noncomputable abbrev Qdn:Stmt:=top 17
noncomputable def N15:List Str:=["_law_script","_law_web_here","_law_due","_law_told_here","_law_name_here"]
noncomputable def Qpw:List (Nat×Df):=[]
noncomputable def Qpt:List Str:=["_law_gone","_law_keeper","_law_found","_law_due"]
noncomputable def QoQ:List Str:=[]
noncomputable def Qpr:List Nat:=[]
noncomputable def Qpq:List (Nat×Nat):=[]
noncomputable def Qpg:List Nat:=[]
noncomputable def b0:List S:=[(.set 1 (.bi .dict [(.comp (.seq (.call 1 [(.var 0)])) false none (.tup [(.var 7),(.lst [])]))])),(.loop (.pair 2 3) (.enm (.ix (.var 0) (.c (.int 0 0)))) [(.loop (.pair 4 5) (.enm (.var 3)) [(.loop (.name 6) (.seq (.ix (.var 5) (.c (.int 0 0)))) [(.expr (.bm .append (.ix (.var 1) (.var 6)) [(.tup [(.var 2),(.var 4)])]))])])]),(.ret (.var 1))]
noncomputable def b1:List S:=[(.set 1 (.lst [])),(.loop (.name 2) (.rngA [(.op .Sub (.bi .len [(.ix (.var 0) (.c (.int 0 0)))]) (.c (.int 1 0))),(.neg (.c (.int 1 0))),(.neg (.c (.int 1 0)))]) [(.expr (.bm .extend (.var 1) [(.comp (.rng (.bi .len [(.ix (.ix (.var 0) (.c (.int 0 0))) (.var 2))])) false none (.tup [(.var 2),(.var 3)]))]))]),(.ret (.var 1))]
noncomputable def b2:List S:=[(.ite (.cmp .Lt (.var 1) (.bi .len [(.var 0)])) [(.ret (.ix (.var 0) (.var 1)))] []),(.ret (.c (.int 0 0)))]
noncomputable def b3:List S:=[(.ret (.and (.isi (.var 0) .int) (.not (.isi (.var 0) .bool))))]
noncomputable def b4:List S:=[(.ret (.and (.isi (.var 0) .tuple) (.and (.cmp .Eq (.bi .len [(.var 0)]) (.c (.int 2 0))) (.and (.call 3 [(.ix (.var 0) (.c (.int 0 0)))]) (.call 3 [(.ix (.var 0) (.c (.int 1 0)))])))))]
noncomputable def b5:List S:=[(.ret (.and (.isi (.var 0) .list) (.cmp .Eq (.comp (.seq (.var 0)) false (some (.not (.call 4 [(.var 1)]))) (.var 1)) (.lst []))))]
noncomputable def b6:List S:=[(.set 4 (.c (.int 0 0))),(.ite (.cmp .Gt (.bi .len [(.var 1)]) (.c (.int 0 0))) [(.set 4 (.op .Sub (.c (.int 1 0)) (.op .Mult (.c (.int 2 0)) (.op .Mod (.var 2) (.c (.int 2 0))))))] []),(.expr (.bm .append (.ix (.var 0) (.c (.str [103,105,118,101,110]))) [(.tup [(.bi .len [(.ix (.var 0) (.c (.str [114,111,119,115])))]),(.bi .len [(.ix (.var 0) (.c (.str [110,101,119])))])])])),(.expr (.bm .append (.ix (.var 0) (.c (.str [110,101,119]))) [(.tup [(.bi .tuple [(.var 1)]),(.var 4),(.var 3)])]))]
noncomputable def b7:List S:=[(.expr (.bm .append (.ix (.var 0) (.c (.str [114,111,119,115]))) [(.ix (.var 0) (.c (.str [110,101,119])))])),(.put (.var 0) (.c (.str [108,101,102,116])) (.ix (.var 0) (.c (.str [103,105,118,101,110])))),(.put (.var 0) (.c (.str [103,105,118,101,110])) (.lst [])),(.put (.var 0) (.c (.str [110,101,119])) (.lst []))]
noncomputable def b8:List S:=[(.set 3 (.ix (.c (.str [119,120,121,122])) (.op .Mod (.op .FloorDiv (.var 2) (.c (.int 3 0))) (.c (.int 4 0))))),(.set 4 (.bi .len [(.ix (.var 0) (.c (.str [114,111,119,115])))])),(.ite (.and (.cmp .Gt (.op .Mod (.var 2) (.c (.int 3 0))) (.c (.int 0 0))) (.cmp .Eq (.bm .get (.ix (.var 0) (.c (.str [112,117,116]))) [(.var 3),(.var 4)]) (.var 4))) [(.put (.ix (.var 0) (.c (.str [112,117,116]))) (.var 3) (.var 4)),(.expr (.bm .append (.bm .setdef (.ix (.var 0) (.c (.str [107,101,112,116]))) [(.var 3),(.lst [])]) [(.var 1)]))] [(.expr (.bm .append (.ix (.var 0) (.c (.str [111,102,102]))) [(.var 1)]))])]
noncomputable def b9:List S:=[(.set 2 .dnewT),(.loopK 3 (.ix (.var 0) (.c (.str [107,101,112,116]))) [(.loop (.name 4) (.seq (.ix (.ix (.var 0) (.c (.str [107,101,112,116]))) (.var 3))) [(.put (.var 2) (.var 4) (.c (.bl true)))])]),(.set 5 (.lst [])),(.loop (.name 6) (.rng (.bi .len [(.ix (.var 0) (.c (.str [114,111,119,115])))])) [(.set 5 (.op .Add (.var 5) (.comp (.rng (.bi .len [(.ix (.ix (.var 0) (.c (.str [114,111,119,115]))) (.var 6))])) false (some (.cmp .NotIn (.tup [(.var 6),(.var 8)]) (.var 2))) (.tup [(.var 6),(.var 8)]))))]),(.set 7 (.op .Mod (.op .FloorDiv (.var 1) (.c (.int 4 0))) (.bi .max [(.c (.int 1 0)),(.bi .len [(.var 5)])]))),(.loop (.name 4) (.seq (.sl (.var 5) (some (.var 7)) (some (.op .Add (.op .Add (.var 7) (.c (.int 1 0))) (.op .Mod (.var 1) (.c (.int 4 0))))))) [(.expr (.bm .append (.ix (.var 0) (.c (.str [103,105,118,101,110]))) [(.tup [(.bi .len [(.ix (.var 0) (.c (.str [114,111,119,115])))]),(.bi .len [(.ix (.var 0) (.c (.str [110,101,119])))])])])),(.expr (.bm .append (.ix (.var 0) (.c (.str [110,101,119]))) [(.tup [(.tup [(.var 4)]),(.c (.int 1 0)),(.c (.int 0 0))])]))])]
noncomputable def b10:List S:=[(.set 3 (.op .FloorDiv (.bi .len [(.var 1)]) (.c (.int 2 0)))),(.set 4 (.op .Sub (.c (.int 1 0)) (.op .Mult (.c (.int 2 0)) (.op .Mod (.op .FloorDiv (.var 2) (.c (.int 7 0))) (.c (.int 2 0)))))),(.loop (.name 5) (.seq (.sl (.var 1) (some (.var 3)) none)) [(.expr (.call 6 [(.var 0),(.lst [(.var 5)]),(.op .FloorDiv (.var 2) (.c (.int 14 0))),(.op .Sub (.c (.int 0 0)) (.var 4))]))]),(.loop (.name 5) (.seq (.sl (.var 1) none (some (.var 3)))) [(.expr (.call 6 [(.var 0),(.lst [(.var 5)]),(.op .FloorDiv (.var 2) (.c (.int 14 0))),(.var 4)]))])]
noncomputable def b11:List S:=[(.set 2 (.op .Mod (.var 1) (.c (.int 8 0)))),(.set 3 (.op .FloorDiv (.var 1) (.c (.int 8 0)))),(.set 4 (.sl (.ix (.var 0) (.c (.str [108,101,102,116]))) none (some (.c (.int 1 0))))),(.ite (.cmp .Eq (.var 2) (.c (.int 3 0))) [(.set 4 (.sl (.ix (.var 0) (.c (.str [108,101,102,116]))) none (some (.op .Add (.c (.int 2 0)) (.op .Mod (.var 3) (.c (.int 3 0)))))))] []),(.ite (.cmp .Eq (.var 2) (.c (.int 7 0))) [(.set 4 (.sl (.ix (.var 0) (.c (.str [108,101,102,116]))) none (some (.op .Add (.c (.int 2 0)) (.op .Mod (.var 3) (.c (.int 7 0)))))))] []),(.ite (.cmp .Eq (.var 2) (.c (.int 5 0))) [(.set 4 (.lst []))] []),(.put (.var 0) (.c (.str [108,101,102,116])) (.sl (.ix (.var 0) (.c (.str [108,101,102,116]))) (some (.bi .len [(.var 4)])) none)),(.ite (.cmp .Eq (.var 4) (.lst [])) [(.expr (.call 6 [(.var 0),(.lst []),(.var 3),(.c (.int 0 0))]))] [(.ite (.cmp .Eq (.var 2) (.c (.int 2 0))) [(.expr (.bm .append (.ix (.var 0) (.c (.str [103,105,118,101,110]))) [(.ix (.var 4) (.c (.int 0 0)))]))] [(.ite (.and (.cmp .Eq (.var 2) (.c (.int 3 0))) (.cmp .Eq (.op .Mod (.op .FloorDiv (.var 3) (.c (.int 3 0))) (.c (.int 2 0))) (.c (.int 1 0)))) [(.expr (.call 6 [(.var 0),(.rev (.var 4)),(.op .FloorDiv (.var 3) (.c (.int 6 0))),(.c (.int 0 0))]))] [(.ite (.cmp .Eq (.var 2) (.c (.int 4 0))) [(.loop (.name 5) (.rng (.op .Add (.c (.int 2 0)) (.op .Mod (.var 3) (.c (.int 3 0))))) [(.expr (.call 6 [(.var 0),(.var 4),(.op .Add (.op .FloorDiv (.var 3) (.c (.int 3 0))) (.var 5)),(.c (.int 0 0))]))])] [(.ite (.cmp .Eq (.var 2) (.c (.int 6 0))) [(.expr (.call 8 [(.var 0),(.ix (.var 4) (.c (.int 0 0))),(.var 3)]))] [(.ite (.and (.cmp .Eq (.var 2) (.c (.int 7 0))) (.cmp .Gt (.bi .len [(.var 4)]) (.c (.int 1 0)))) [(.expr (.call 10 [(.var 0),(.var 4),(.var 3)]))] [(.expr (.call 6 [(.var 0),(.var 4),(.op .FloorDiv (.var 3) (.c (.int 6 0))),(.c (.int 0 0))]))])])])])])])]
noncomputable def b12:List S:=[(.set 1 (.op .Mod (.call 2 [(.var 0),(.c (.int 0 0))]) (.c (.int 9 0)))),(.set 2 (.dsp [(.str [114,111,119,115]),(.str [108,101,102,116])] [(.lst [(.comp (.rng (.var 1)) false none (.tup [(.tup []),(.c (.int 0 0)),(.c (.int 0 0))]))]),(.comp (.rng (.var 1)) false none (.tup [(.c (.int 0 0)),(.var 5)]))])),(.expr (.bm .update (.var 2) [(.dsp [(.str [103,105,118,101,110]),(.str [110,101,119]),(.str [112,117,116]),(.str [107,101,112,116]),(.str [111,102,102])] [(.lst []),(.lst []),.dnew,.dnew,(.lst [])])])),(.loop (.name 3) (.seq (.sl (.var 0) (some (.c (.int 2 0))) (some (.c (.int 62 0))))) [(.ite (.and (.cmp .Eq (.ix (.var 2) (.c (.str [108,101,102,116]))) (.lst [])) (.and (.cmp .Eq (.ix (.var 2) (.c (.str [103,105,118,101,110]))) (.lst [])) (.cmp .Lt (.op .Mod (.var 3) (.c (.int 16 0))) (.c (.int 8 0))))) [(.expr (.call 7 [(.var 2)])),(.expr (.call 9 [(.var 2),(.op .FloorDiv (.var 3) (.c (.int 16 0)))]))] []),(.ite (.and (.cmp .Eq (.ix (.var 2) (.c (.str [108,101,102,116]))) (.lst [])) (.cmp .NotEq (.ix (.var 2) (.c (.str [103,105,118,101,110]))) (.lst []))) [(.expr (.call 7 [(.var 2)]))] []),(.expr (.call 11 [(.var 2),(.var 3)]))]),(.set 4 (.comp (.seq (.c (.str [119,120,121,122]))) false (some (.cmp .In (.var 5) (.ix (.var 2) (.c (.str [107,101,112,116]))))) (.tup [(.var 5),(.ix (.ix (.var 2) (.c (.str [107,101,112,116]))) (.var 5))]))),(.ret (.tup [(.op .Add (.ix (.var 2) (.c (.str [114,111,119,115]))) (.lst [(.ix (.var 2) (.c (.str [110,101,119])))])),(.op .Add (.ix (.var 2) (.c (.str [103,105,118,101,110]))) (.ix (.var 2) (.c (.str [108,101,102,116])))),(.var 4),(.bi .sorted [(.ix (.var 2) (.c (.str [111,102,102])))])]))]
noncomputable def b13:List S:=[(.set 1 .dnewT),(.loop (.name 2) (.rng (.bi .len [(.ix (.var 0) (.c (.int 0 0)))])) [(.loop (.name 3) (.rng (.bi .len [(.ix (.ix (.var 0) (.c (.int 0 0))) (.var 2))])) [(.put (.var 1) (.tup [(.var 2),(.var 3)]) (.lst []))])]),(.loop (.name 2) (.rng (.bi .len [(.ix (.var 0) (.c (.int 0 0)))])) [(.loop (.name 3) (.rng (.bi .len [(.ix (.ix (.var 0) (.c (.int 0 0))) (.var 2))])) [(.loop (.name 4) (.seq (.ix (.ix (.ix (.ix (.var 0) (.c (.int 0 0))) (.var 2)) (.var 3)) (.c (.int 0 0)))) [(.expr (.bm .append (.ix (.var 1) (.var 4)) [(.tup [(.var 2),(.var 3)])]))])])]),(.ret (.var 1))]
noncomputable def b14:List S:=[(.ite (.or (.not (.isi (.var 0) .dict)) (.cmp .NotEq (.bi .len [(.var 0)]) (.bi .len [(.var 1)]))) [(.ret (.c (.bl false)))] []),(.loopK 2 (.var 1) [(.ite (.or (.cmp .NotIn (.var 2) (.var 0)) (.or (.not (.call 5 [(.ix (.var 0) (.var 2))])) (.cmp .NotEq (.ix (.var 0) (.var 2)) (.ix (.var 1) (.var 2))))) [(.ret (.c (.bl false)))] [])]),(.ret (.c (.bl true)))]
noncomputable def b15:List S:=[(.set 1 (.call 12 [(.var 0)])),(.set 2 (.call 13 [(.var 1)])),(.set 3 (.call 0 [(.var 1)])),(.ite (.or (.not (.call 14 [(.var 3),(.var 2)])) (.cmp .NotEq (.var 1) (.call 12 [(.var 0)]))) [(.ret (.c (.bl false)))] []),(.loopK 4 (.var 2) [(.expr (.bm .append (.ix (.var 3) (.var 4)) [(.tup [(.c (.int 0 0)),(.c (.int 0 0))])]))]),(.ret (.and (.call 14 [(.call 0 [(.var 1)]),(.var 2)]) (.cmp .Eq (.var 1) (.call 12 [(.var 0)]))))]
noncomputable def fnL:List Fn:=[⟨"drawers","drawers",st0,["web"],N0,1,7,false,b0⟩,
 ⟨"names_downward","names_downward",st1,["web"],N1,1,3,false,b1⟩,
 ⟨"_law_cell_at","_law_cell_at",st2,["_law_script","_law_k"],N2,2,2,false,b2⟩,
 ⟨"_law_whole","_law_whole",st3,["_law_found"],N3,1,1,false,b3⟩,
 ⟨"_law_name","_law_name",st4,["_law_found"],N4,1,1,false,b4⟩,
 ⟨"_law_listed","_law_listed",st5,["_law_found"],N5,1,1,false,b5⟩,
 ⟨"_law_gives","_law_gives",st6,["_law_web_here","_law_parents","_law_cell","_law_lift"],N6,4,5,false,b6⟩,
 ⟨"_law_row_end","_law_row_end",st7,["_law_web_here"],N7,1,1,false,b7⟩,
 ⟨"_law_put_by","_law_put_by",st8,["_law_web_here","_law_name_here","_law_more"],N8,3,5,false,b8⟩,
 ⟨"_law_picked","_law_picked",st9,["_law_web_here","_law_more"],N9,2,8,false,b9⟩,
 ⟨"_law_crossed","_law_crossed",Qfi,["_law_web_here","_law_some","_law_more"],N10,3,6,false,b10⟩,
 ⟨"_law_step","_law_step",Qfh,["_law_web_here","_law_cell"],N11,2,6,false,b11⟩,
 ⟨"_law_web","_law_web",Qfg,["_law_script"],N12,1,5,false,b12⟩,
 ⟨"_law_above","_law_above",Qff,["_law_web_here"],N13,1,5,false,b13⟩,
 ⟨"_law_told","_law_told",Qfe,["_law_told_here","_law_due"],N14,2,3,false,b14⟩,
 ⟨"law","law",Qdn,["_law_script"],N15,1,5,true,b15⟩]
noncomputable def tb(s:List U):Tbl:=⟨fnL,QpA,QoL,fldN,mthN,s,Qpj,Qpw,Qpt,QoQ,false,Qpr,Qpq,Qpg,fun _ _ _=>none⟩
noncomputable abbrev so(x:String):Str:=Str.ofString x
noncomputable abbrev rf(a:Addr):Value:=.ref a
noncomputable abbrev sv(x:String)(n:Nat):Value:=.str (Str.ofString x) n
noncomputable abbrev dk(P:Params)(x:String)(n:Nat)(v:Value):DictEntry:=DictEntry.mk (PyData.keyHash P (Str.ofString x)) (.str (Str.ofString x) n) v
noncomputable abbrev tu(xs:Array Value)(n:Nat):Obj:=Obj.mk (.type "tuple") none (Data.seq xs n) #[]
noncomputable abbrev ob(c:String)(d:Data):Obj:=Obj.mk (.type c) none d #[]
noncomputable abbrev en(P:Params)(x:Str)(k v:Value):DictEntry:=DictEntry.mk (PyData.keyHash P x) k v
noncomputable abbrev de(P:Params)(x:Str)(n:Nat)(v:Value):DictEntry:=DictEntry.mk (PyData.keyHash P x) (.str x n) v
noncomputable abbrev hp:Program:=PySem.Challenge.pw_stitchroom_k30_drawers
noncomputable abbrev hr:W.RowW:=(PySem.Challenge.rw_stitchroom_k30_drawers).row.toRowW
noncomputable def hB:Iv.BootT:=⟨fun P=>(.node (W.boot_o_0 P) (.node (W.boot_o_1 P) (.node (W.boot_o_3 P) (.node (W.boot_o_7 P) .nil .nil) .nil) (.node (W.boot_o_5 P) (.node (W.boot_o_9 P) .nil .nil) .nil)) (.node (W.boot_o_2 P) (.node (W.boot_o_4 P) (.node (W.boot_o_8 P) .nil .nil) .nil) (.node (W.boot_o_6 P) (.node (W.boot_o_10 P) .nil .nil) .nil))),11,{}⟩
noncomputable def hq:Program:=W.view hp [1,2,4,5,6,7,8,9,10,11,12,13,14,15,16,17]
noncomputable abbrev hlo:List Str:=[]
noncomputable def K:Params->W.Frag:=fun P =>
 (nat_lit 2,(Obj.mk .none none (Data.dict #[] 0) #[]))::
 (nat_lit 3,(ob "dict" (Data.dict #[(dk P "__name__" 165 (sv "law_stitchroom_k30_drawers" 201)),(dk P "__doc__" 166 .none),(dk P "__package__" 167 .none),(dk P "__loader__" 168 (.builtin "__main__.__loader__#opaque")),(dk P "__spec__" 169 .none),(dk P "__annotations__" 170 (rf 6)),(dk P "__builtins__" 171 (rf 4)),(dk P "__file__" 173 (sv "/claim/cut.py" 172)),(dk P "__cached__" 174 .none),(dk P "drawers" 194 (rf 19)),(dk P "names_downward" 200 (rf 24)),(dk P "_law_cell_at" 210 (rf 31)),(dk P "_law_whole" 217 (rf 38)),(dk P "_law_name" 224 (rf 45)),(dk P "_law_listed" 230 (rf 50)),(dk P "_law_gives" 241 (rf 57)),(dk P "_law_row_end" 248 (rf 64)),(dk P "_law_put_by" 259 (rf 71)),(dk P "_law_picked" 265 (rf 76)),(dk P "_law_crossed" 277 (rf 83)),(dk P "_law_step" 289 (rf 90)),(dk P "_law_web" 295 (rf 95)),(dk P "_law_above" 306 (rf 102)),(dk P "_law_told" 315 (rf 109)),(dk P "law" 326 (rf 116))] 25)))::
 (nat_lit 6,(ob "dict" (Data.dict #[] 0)))::
 (nat_lit 18,(ob "code" (Data.fields #[(sv "drawers" 189),(sv "drawers" 190),(sv "/claim/cut.py" 191),(.int 2 0),(.int 1 0),(.int 0 0),(.int 0 0),(.int 3 0),(rf 15),(.bool Bool.true),(.int 181 0),(rf 16),.none,.none,.none,(rf 17),(.int 192 0),(.int 2 0),(sv "/claim/cut.py" 193)])))::
 (nat_lit 19,⟨(.type "function"),none,.func (W.fnOf (so "drawers") (so "drawers") (Qm st0) (Qk st0) (Qb st0) .none .none .none (sv "stitchroom.holds" 187) none (rf 18) .none),#[]⟩)::
 (nat_lit 23,(ob "code" (Data.fields #[(sv "names_downward" 195),(sv "names_downward" 196),(sv "/claim/cut.py" 197),(.int 9 0),(.int 1 0),(.int 0 0),(.int 0 0),(.int 3 0),(rf 20),(.bool Bool.true),(.int 181 0),(rf 21),.none,.none,.none,(rf 22),(.int 198 0),(.int 9 0),(sv "/claim/cut.py" 199)])))::
 (nat_lit 24,⟨(.type "function"),none,.func (W.fnOf (so "names_downward") (so "names_downward") (Qm st1) (Qk st1) (Qb st1) .none .none .none (sv "stitchroom.holds" 187) none (rf 23) .none),#[]⟩)::
 (nat_lit 30,(ob "code" (Data.fields #[(sv "_law_cell_at" 203),(sv "_law_cell_at" 204),(sv "/claim/cut.py" 205),(.int 15 0),(.int 2 0),(.int 0 0),(.int 0 0),(.int 3 0),(rf 25),(.bool Bool.true),(.int 181 0),(rf 26),.none,(rf 27),(rf 28),(rf 29),(.int 208 0),(.int 15 0),(sv "/claim/cut.py" 209)])))::
 (nat_lit 31,⟨(.type "function"),none,.func (W.fnOf (so "_law_cell_at") (so "_law_cell_at") (Qm st2) (Qk st2) (Qb st2) .none .none .none (sv "law_stitchroom_k30_drawers" 201) none (rf 30) .none),#[]⟩)::
 (nat_lit 37,(ob "code" (Data.fields #[(sv "_law_whole" 211),(sv "_law_whole" 212),(sv "/claim/cut.py" 213),(.int 19 0),(.int 1 0),(.int 0 0),(.int 0 0),(.int 3 0),(rf 32),(.bool Bool.true),(.int 181 0),(rf 33),.none,(rf 34),(rf 35),(rf 36),(.int 215 0),(.int 19 0),(sv "/claim/cut.py" 216)])))::
 (nat_lit 38,⟨(.type "function"),none,.func (W.fnOf (so "_law_whole") (so "_law_whole") (Qm st3) (Qk st3) (Qb st3) .none .none .none (sv "law_stitchroom_k30_drawers" 201) none (rf 37) .none),#[]⟩)::
 (nat_lit 44,(ob "code" (Data.fields #[(sv "_law_name" 218),(sv "_law_name" 219),(sv "/claim/cut.py" 220),(.int 21 0),(.int 1 0),(.int 0 0),(.int 0 0),(.int 3 0),(rf 39),(.bool Bool.true),(.int 181 0),(rf 40),.none,(rf 41),(rf 42),(rf 43),(.int 222 0),(.int 21 0),(sv "/claim/cut.py" 223)])))::
 (nat_lit 45,⟨(.type "function"),none,.func (W.fnOf (so "_law_name") (so "_law_name") (Qm st4) (Qk st4) (Qb st4) .none .none .none (sv "law_stitchroom_k30_drawers" 201) none (rf 44) .none),#[]⟩)::
 (nat_lit 49,(ob "code" (Data.fields #[(sv "_law_listed" 225),(sv "_law_listed" 226),(sv "/claim/cut.py" 227),(.int 23 0),(.int 1 0),(.int 0 0),(.int 0 0),(.int 3 0),(rf 46),(.bool Bool.true),(.int 181 0),(rf 47),.none,.none,.none,(rf 48),(.int 228 0),(.int 23 0),(sv "/claim/cut.py" 229)])))::
 (nat_lit 50,⟨(.type "function"),none,.func (W.fnOf (so "_law_listed") (so "_law_listed") (Qm st5) (Qk st5) (Qb st5) .none .none .none (sv "law_stitchroom_k30_drawers" 201) none (rf 49) .none),#[]⟩)::
 (nat_lit 56,(ob "code" (Data.fields #[(sv "_law_gives" 231),(sv "_law_gives" 232),(sv "/claim/cut.py" 233),(.int 25 0),(.int 4 0),(.int 0 0),(.int 0 0),(.int 3 0),(rf 51),(.bool Bool.true),(.int 181 0),(rf 52),.none,(rf 53),(rf 54),(rf 55),(.int 239 0),(.int 25 0),(sv "/claim/cut.py" 240)])))::
 (nat_lit 57,⟨(.type "function"),none,.func (W.fnOf (so "_law_gives") (so "_law_gives") (Qm st6) (Qk st6) (Qb st6) .none .none .none (sv "law_stitchroom_k30_drawers" 201) none (rf 56) .none),#[]⟩)::
 (nat_lit 63,(ob "code" (Data.fields #[(sv "_law_row_end" 242),(sv "_law_row_end" 243),(sv "/claim/cut.py" 244),(.int 31 0),(.int 1 0),(.int 0 0),(.int 0 0),(.int 3 0),(rf 58),(.bool Bool.true),(.int 181 0),(rf 59),.none,(rf 60),(rf 61),(rf 62),(.int 246 0),(.int 31 0),(sv "/claim/cut.py" 247)])))::
 (nat_lit 64,⟨(.type "function"),none,.func (W.fnOf (so "_law_row_end") (so "_law_row_end") (Qm st7) (Qk st7) (Qb st7) .none .none .none (sv "law_stitchroom_k30_drawers" 201) none (rf 63) .none),#[]⟩)::
 (nat_lit 70,(ob "code" (Data.fields #[(sv "_law_put_by" 249),(sv "_law_put_by" 250),(sv "/claim/cut.py" 251),(.int 36 0),(.int 3 0),(.int 0 0),(.int 0 0),(.int 3 0),(rf 65),(.bool Bool.true),(.int 181 0),(rf 66),.none,(rf 67),(rf 68),(rf 69),(.int 257 0),(.int 36 0),(sv "/claim/cut.py" 258)])))::
 (nat_lit 71,⟨(.type "function"),none,.func (W.fnOf (so "_law_put_by") (so "_law_put_by") (Qm st8) (Qk st8) (Qb st8) .none .none .none (sv "law_stitchroom_k30_drawers" 201) none (rf 70) .none),#[]⟩)::
 (nat_lit 75,(ob "code" (Data.fields #[(sv "_law_picked" 260),(sv "_law_picked" 261),(sv "/claim/cut.py" 262),(.int 44 0),(.int 2 0),(.int 0 0),(.int 0 0),(.int 3 0),(rf 72),(.bool Bool.true),(.int 181 0),(rf 73),.none,.none,.none,(rf 74),(.int 263 0),(.int 44 0),(sv "/claim/cut.py" 264)])))::
 (nat_lit 76,⟨(.type "function"),none,.func (W.fnOf (so "_law_picked") (so "_law_picked") (Qm st9) (Qk st9) (Qb st9) .none .none .none (sv "law_stitchroom_k30_drawers" 201) none (rf 75) .none),#[]⟩)::
 (nat_lit 82,(ob "code" (Data.fields #[(sv "_law_crossed" 266),(sv "_law_crossed" 267),(sv "/claim/cut.py" 268),(.int 56 0),(.int 3 0),(.int 0 0),(.int 0 0),(.int 3 0),(rf 77),(.bool Bool.true),(.int 181 0),(rf 78),.none,(rf 79),(rf 80),(rf 81),(.int 275 0),(.int 56 0),(sv "/claim/cut.py" 276)])))::
 (nat_lit 83,⟨(.type "function"),none,.func (W.fnOf (so "_law_crossed") (so "_law_crossed") (Qm Qfi) (Qk Qfi) (Qb Qfi) .none .none .none (sv "law_stitchroom_k30_drawers" 201) none (rf 82) .none),#[]⟩)::
 (nat_lit 89,(ob "code" (Data.fields #[(sv "_law_step" 278),(sv "_law_step" 279),(sv "/claim/cut.py" 280),(.int 63 0),(.int 2 0),(.int 0 0),(.int 0 0),(.int 3 0),(rf 84),(.bool Bool.true),(.int 181 0),(rf 85),.none,(rf 86),(rf 87),(rf 88),(.int 287 0),(.int 63 0),(sv "/claim/cut.py" 288)])))::
 (nat_lit 90,⟨(.type "function"),none,.func (W.fnOf (so "_law_step") (so "_law_step") (Qm Qfh) (Qk Qfh) (Qb Qfh) .none .none .none (sv "law_stitchroom_k30_drawers" 201) none (rf 89) .none),#[]⟩)::
 (nat_lit 94,(ob "code" (Data.fields #[(sv "_law_web" 290),(sv "_law_web" 291),(sv "/claim/cut.py" 292),(.int 89 0),(.int 1 0),(.int 0 0),(.int 0 0),(.int 3 0),(rf 91),(.bool Bool.true),(.int 181 0),(rf 92),.none,.none,.none,(rf 93),(.int 293 0),(.int 89 0),(sv "/claim/cut.py" 294)])))::
 (nat_lit 95,⟨(.type "function"),none,.func (W.fnOf (so "_law_web") (so "_law_web") (Qm Qfg) (Qk Qfg) (Qb Qfg) .none .none .none (sv "law_stitchroom_k30_drawers" 201) none (rf 94) .none),#[]⟩)::
 (nat_lit 101,(ob "code" (Data.fields #[(sv "_law_above" 296),(sv "_law_above" 297),(sv "/claim/cut.py" 298),(.int 102 0),(.int 1 0),(.int 0 0),(.int 0 0),(.int 3 0),(rf 96),(.bool Bool.true),(.int 181 0),(rf 97),.none,(rf 98),(rf 99),(rf 100),(.int 304 0),(.int 102 0),(sv "/claim/cut.py" 305)])))::
 (nat_lit 102,⟨(.type "function"),none,.func (W.fnOf (so "_law_above") (so "_law_above") (Qm Qff) (Qk Qff) (Qb Qff) .none .none .none (sv "law_stitchroom_k30_drawers" 201) none (rf 101) .none),#[]⟩)::
 (nat_lit 108,(ob "code" (Data.fields #[(sv "_law_told" 307),(sv "_law_told" 308),(sv "/claim/cut.py" 309),(.int 112 0),(.int 2 0),(.int 0 0),(.int 0 0),(.int 3 0),(rf 103),(.bool Bool.true),(.int 181 0),(rf 104),.none,(rf 105),(rf 106),(rf 107),(.int 313 0),(.int 112 0),(sv "/claim/cut.py" 314)])))::
 (nat_lit 109,⟨(.type "function"),none,.func (W.fnOf (so "_law_told") (so "_law_told") (Qm Qfe) (Qk Qfe) (Qb Qfe) .none .none .none (sv "law_stitchroom_k30_drawers" 201) none (rf 108) .none),#[]⟩)::
 (nat_lit 115,(ob "code" (Data.fields #[(sv "law" 316),(sv "law" 317),(sv "/claim/cut.py" 318),(.int 119 0),(.int 1 0),(.int 0 0),(.int 0 0),(.int 3 0),(rf 110),(.bool Bool.true),(.int 181 0),(rf 111),.none,(rf 112),(rf 113),(rf 114),(.int 324 0),(.int 119 0),(sv "/claim/cut.py" 325)])))::
 (nat_lit 116,⟨(.type "function"),none,.func (W.fnOf (so "law") (so "law") (Qm Qdn) (Qk Qdn) (Qb Qdn) .none .none .none (sv "law_stitchroom_k30_drawers" 201) none (rf 115) .none),#[]⟩)::[]
noncomputable def KA:List Addr:=[2,3,6,18,19,23,24,30,31,37,38,44,45,49,50,56,57,63,64,70,71,75,76,82,83,89,90,94,95,101,102,108,109,115,116]
theorem hKA:∀P,KA=(K P).map (·.1):=fun _=>by kernel_rfl
noncomputable abbrev hXt:Shared->Bool:=fun s=>W.xlAt hq [] s&&W.recOk (W.RowW.records hr) s
theorem hop:W.opening hp=W.plainProg hp.main.scope.names:=by kernel_rfl
theorem hfm:∀s,PySem.fenceModules? hp s=some s:=fun s=>by kernel_rfl
theorem hbo:∀w:World,W.absHeap (hB.t w.params) hB.n hB.life=W.boot_heap w.params:=fun w=>by kernel_rfl
theorem hsz:∀w:World,((W.boot_heap w.params).isNs mainGlobals,(W.boot_heap w.params).objs.size,(W.boot_heap w.params).nsMap mainGlobals "__annotations__")=(true,11,some (.ref 6)):=fun w=>by kernel_rfl
noncomputable abbrev hYf:Shared->List (Option Obj):=fun s=>KA.map s.heap.get?
noncomputable abbrev hYa:World->List (Option Obj):=fun w=>(K w.params).map fun p=>some p.2
noncomputable abbrev hN:Nat:=1118
noncomputable abbrev hn6:Option Value:=some (.ref 6)
noncomputable abbrev hS(w:World):Prop:=Iv.RunT hp hq hlo hXt hYf hYa 1118 true hB 11 (some (.ref 6)) w
theorem Qpn(w:World):hS w:=fun os=>by kernel_rfl
theorem hleft:W.LeftO hp hq hlo hXt hYf hYa 1118 true:=Iv.left_tree hop (by decide) hfm hbo hsz Qpn
theorem eq_int{T:Tbl}{i j:Int}{hs:Hs}:eqA T (.int i 0) (.int j 0) hs=some (decide (i=j)):=rfl
theorem at0{hs:Hs}{a:O}{r:Hs}:(hs++a::r)[hs.length]?=some a:=by rw [List.getElem?_append_right (Nat.le_refl _),Nat.sub_self];rfl
theorem Qom{hs:Hs}{a b:O}:(hs++[a]).set hs.length b=hs++[b]:=by rw [List.set_append_right _ _ (Nat.le_refl _)];simp
theorem Qj{hs:Hs}{r:Hs}{p:Nat}{o:O}(h:hs[p]?=some o):(hs++r)[p]?=some o:=by
 rw [List.getElem?_append_left (List.getElem?_eq_some_iff.mp h).1];exact h
noncomputable def Kp(hs hs':Hs):Prop:=∀(p:Nat) o,hs[p]?=some o->hs'[p]?=some o
theorem Kp.refl(hs:Hs):Kp hs hs:=fun _ _ h=>h
theorem Kp.app(hs r:Hs):Kp hs (hs++r):=fun _ _ h=>Qj h
theorem Kp.trans{a b c:Hs}(h:Kp a b)(h':Kp b c):Kp a c:=fun p o e=>h' p o (h p o e)
theorem Kp.len{a b:Hs}(h:Kp a b):a.length<=b.length:=by
 cases ha:a.length with
 | zero=>omega
 | succ k =>
  have lt:k<a.length:=by omega
  have:=(List.getElem?_eq_some_iff.mp (h k a[k] (by simp [lt]))).1
  omega
theorem Kp.put{a b:Hs}{j:Nat}{o:O}(h:Kp a b)(hj:a.length<=j):Kp a (b.set j o):=fun p x e=>by
 have lt:=(List.getElem?_eq_some_iff.mp e).1
 rw [List.getElem?_set_ne (by omega)]
 exact h p x e
section
variable {T:Tbl}{cf:Cf}{d:Nat}{ρ:Rho}{hs h1:Hs}
theorem Qn{r:List S}{st:S}{ρ':Rho}(e:ex T cf d st ρ hs=some (.next,ρ',h1)):exs T cf (d+1) (st::r) ρ hs=exs T cf d r ρ' h1:=by
 rw [QL,e]
theorem Qc1{t:E}{a:List S}(e:evT T cf (d+1) t ρ hs=some (false,h1)):ex T cf (d+2) (.ite t a []) ρ hs=some (.next,ρ,h1):=by
 rw [Yj,e,Qo,if_neg (by decide),Q3]
theorem Qmu{a b:E}{o:CmpOp}{u w:U}{h2:Hs}{c:Bool}(ea:ev T cf d a ρ hs=some (u,h1))(eb:ev T cf d b ρ h1=some (w,h2))(ec:Zn T o u w h2=some c):ev T cf (d+1) (.cmp o a b) ρ hs=some (.bl c,h2):=by
 rw [Q6,ea,Qo,eb,Qo,ec];rfl
theorem JY{f:Nat}{i:Nat}{u v:U}(hi:ρ[i]?=some (some u))(e:cf f [u] hs=some (v,h1)):ev T cf (d+2) (.call f [.var i]) ρ hs=some (v,h1):=by
 simp only [QY,evs,Qi,hi,Qo,e]
end
noncomputable def kR:U:=.str [114,111,119,115]
noncomputable def kL:U:=.str [108,101,102,116]
noncomputable def kG:U:=.str [103,105,118,101,110]
noncomputable def kN:U:=.str [110,101,119]
noncomputable def kP:U:=.str [112,117,116]
noncomputable def kK:U:=.str [107,101,112,116]
noncomputable def kOf:U:=.str [111,102,102]
structure Pl where
 w:Nat
 r:Nat
 l:Nat
 g:Nat
 n:Nat
 p:Nat
 k:Nat
 o:Nat
noncomputable def QK(q:Pl):List (U×U):=[(kR,.ref q.r),(kL,.ref q.l),(kG,.ref q.g),(kN,.ref q.n),(kP,.ref q.p),(kK,.ref q.k),(kOf,.ref q.o)]
theorem s_R{T:Tbl}{q:Pl}{w:Nat}{hs:Hs}(h:hs[w]?=some (.dic (QK q))):QH T (.ref w) (.str [114,111,119,115]) hs=some (.ref q.r):=by simp only [QH,h];rfl
theorem s_L{T:Tbl}{q:Pl}{w:Nat}{hs:Hs}(h:hs[w]?=some (.dic (QK q))):QH T (.ref w) (.str [108,101,102,116]) hs=some (.ref q.l):=by simp only [QH,h];rfl
theorem s_G{T:Tbl}{q:Pl}{w:Nat}{hs:Hs}(h:hs[w]?=some (.dic (QK q))):QH T (.ref w) (.str [103,105,118,101,110]) hs=some (.ref q.g):=by simp only [QH,h];rfl
theorem s_N{T:Tbl}{q:Pl}{w:Nat}{hs:Hs}(h:hs[w]?=some (.dic (QK q))):QH T (.ref w) (.str [110,101,119]) hs=some (.ref q.n):=by simp only [QH,h];rfl
theorem s_P{T:Tbl}{q:Pl}{w:Nat}{hs:Hs}(h:hs[w]?=some (.dic (QK q))):QH T (.ref w) (.str [112,117,116]) hs=some (.ref q.p):=by simp only [QH,h];rfl
theorem s_K{T:Tbl}{q:Pl}{w:Nat}{hs:Hs}(h:hs[w]?=some (.dic (QK q))):QH T (.ref w) (.str [107,101,112,116]) hs=some (.ref q.k):=by simp only [QH,h];rfl
theorem s_O{T:Tbl}{q:Pl}{w:Nat}{hs:Hs}(h:hs[w]?=some (.dic (QK q))):QH T (.ref w) (.str [111,102,102]) hs=some (.ref q.o):=by simp only [QH,h];rfl
theorem Zb{T:Tbl}{p:Nat}{hs:Hs}{xs:List U}(h:hs[p]?=some (.lst xs)):biU T .len [.ref p] hs=some (.int xs.length 0,hs):=by unfold biU;simp only [ZN,h]
theorem QjS{T:Tbl}{p:Nat}{hs:Hs}{xs:List U}(h:hs[p]?=some (.lst xs)):biU T .tuple [.ref p] hs=some (.ref hs.length,hs++[.tup xs]):=by unfold biU;simp only [h]
theorem Yr{T:Tbl}{p:Nat}{hs:Hs}{xs:List U}{u:U}(h:hs[p]?=some (.lst xs))(hl:xs.length<1000000):bmU T .append (.ref p) [u] hs=some (.non,hs.set p (.lst (xs++[u]))):=by
 simp only [bmU,h,bmL,hl];rfl
theorem Yo{p:Nat}{hs:Hs}{xs:List U}(h:hs[p]?=some (.lst xs)):QaV .append (.ref p) hs=true:=by simp only [QaV,h];rfl
theorem QoC{x:Int}:Qld (.int 2 0) (.int x 0)=some (.int (2*x) 0):=by
 have h:Qp 2=true:=by decide
 simp only [Qld,h,Bool.true_or,if_true]
noncomputable def YE(m:Nat)(c:Int):Int:=if m=0 then 0 else 1-2*(c % 2)
noncomputable def Qhc(q:Pl)(rs gs ns ps:List U)(c z:Int)(hs:Hs):Hs :=
 List.set (List.set (hs++[O.tup [U.int rs.length 0,U.int ns.length 0]]) q.g (O.lst (gs++[U.ref hs.length]))++[O.tup ps,O.tup [U.ref (hs.length+1),U.int (YE ps.length c) 0,U.int z 0]]) q.n (O.lst (ns++[U.ref (hs.length+2)]))
theorem cl6{s:List U}{m:Nat}{a b c d:U}{hs:Hs}:Qa (tb s) (m+1) 6 [a,b,c,d] hs=fin (exs (tb s) (Qa (tb s) m) dd b6 [some a,some b,some c,some d,none] hs):=rfl
theorem Qjg{s:List U}{q:Pl}{hs:Hs}{rs gs ns ps:List U}{pa m:Nat}{c z:Int}(hw:hs[q.w]?=some (.dic (QK q)))(hr:hs[q.r]?=some (.lst rs))(hg:hs[q.g]?=some (.lst gs))(hn:hs[q.n]?=some (.lst ns))(hp:hs[pa]?=some (.lst ps))
  (n1:q.w≠q.g) (n2:q.r≠q.g) (n3:q.n≠q.g) (n4:pa≠q.g) (l1:gs.length<1000000) (l2:ns.length<1000000):
  Qa (tb s) (m+1) 6 [.ref q.w,.ref pa,.int c 0,.int z 0] hs=some (.non,Qhc q rs gs ns ps c z hs):=by
 have hw1:∀u x,((hs++[u]).set q.g x)[q.w]?=some (.dic (QK q)):=fun u x=>by rw [List.getElem?_set_ne (Ne.symm n1)];exact Qj hw
 have hn1:∀u x,((hs++[u]).set q.g x)[q.n]?=some (.lst ns):=fun u x=>by rw [List.getElem?_set_ne (Ne.symm n3)];exact Qj hn
 have hp1:∀u x,((hs++[u]).set q.g x)[pa]?=some (.lst ps):=fun u x=>by rw [List.getElem?_set_ne (Ne.symm n4)];exact Qj hp
 have hl1:∀u x,((hs++[u]).set q.g x).length=hs.length+1:=fun u x=>by simp
 have hg1:∀u,(hs++[u])[q.g]?=some (.lst gs):=fun u=>Qj hg;rw [cl6];generalize Qa (tb s) m=cf;generalize tb s=T
 have e2:∀u x,(((hs++[u]).set q.g x)++[O.tup ps]).length=hs.length+2:=fun u x=>by simp
 have hn2:∀u x y,((((hs++[u]).set q.g x)++[O.tup ps])++[y])[q.n]?=some (.lst ns):=fun u x y=>Qj (Qj (hn1 u x));have hn3:∀u x (r:Hs),(((hs++[u]).set q.g x)++r)[q.n]?=some (.lst ns):=fun u x r=>Qj (hn1 u x);by_cases h0:ps.length=0
 ·simp [b6,dd,Qo,Q3,QL,Zo,Yh,Yj,y_c,Qi,Yi,Q6,ZP,Zq,Yy,Qco,QP,evs,Zn,eq_int,Zj,opU,fin,s_R hw,s_G hw,s_N hw,s_N (hw1 _ _),Zb hr,Zb hn,Zb hp,QjS (hp1 _ _),Yo hg,Yo (hn1 _ _),Yr (hg1 _) l1,Yr (hn3 _ _ _) l2,h0,Qhc,YE]
 ·have h1:0<ps.length:=by omega
  have h2:(0:Int) < ps.length:=by omega
  simp [b6,dd,Qo,Q3,QL,Zo,Yh,Yj,y_c,Qi,Yi,Q6,ZP,Zq,Yy,Qco,QP,evs,Zn,eq_int,Zj,opU,fin,s_R hw,s_G hw,s_N hw,s_N (hw1 _ _),Zb hr,Zb hn,Zb hp,QjS (hp1 _ _),Yo hg,Yo (hn1 _ _),Yr (hg1 _) l1,Yr (hn3 _ _ _) l2,h0,h2,h1,Qhc,YE,Qle,QoC,QhI,gz]
theorem cl7{s:List U}{m:Nat}{a:U}{hs:Hs}:Qa (tb s) (m+1) 7 [a] hs=fin (exs (tb s) (Qa (tb s) m) dd b7 [some a] hs):=rfl
theorem p_L{q:Pl}{w:Nat}{hs:Hs}{x:Nat}(h:hs[w]?=some (.dic (QK q))):QaX (.ref w) (.str [108,101,102,116]) (.ref x) hs=some (hs.set w (.dic (QK { q with l:=x }))):=by simp only [QaX,h];rfl
theorem p_G{q:Pl}{w:Nat}{hs:Hs}{x:Nat}(h:hs[w]?=some (.dic (QK q))):QaX (.ref w) (.str [103,105,118,101,110]) (.ref x) hs=some (hs.set w (.dic (QK { q with g:=x }))):=by simp only [QaX,h];rfl
theorem p_N{q:Pl}{w:Nat}{hs:Hs}{x:Nat}(h:hs[w]?=some (.dic (QK q))):QaX (.ref w) (.str [110,101,119]) (.ref x) hs=some (hs.set w (.dic (QK { q with n:=x }))):=by simp only [QaX,h];rfl
noncomputable def QeG(q:Pl)(hs:Hs):Pl:={ q with l:=q.g,g:=hs.length,n:=hs.length+1 }
noncomputable def JR(q:Pl)(rs:List U)(hs:Hs):Hs:=(List.set hs q.r (O.lst (rs++[U.ref q.n]))++[O.lst [],O.lst []]).set q.w (O.dic (QK (QeG q hs)))
theorem Qe1{s:List U}{q:Pl}{hs:Hs}{rs:List U}{m:Nat}(hw:hs[q.w]?=some (.dic (QK q)))(hr:hs[q.r]?=some (.lst rs))(n1:q.w≠q.r)(l1:rs.length<1000000):
  Qa (tb s) (m+1) 7 [.ref q.w] hs=some (.non,JR q rs hs):=by
 rw [cl7];generalize Qa (tb s) m=cf;generalize tb s=T;have lw:q.w<hs.length:=(List.getElem?_eq_some_iff.mp hw).1
 have hw1:∀x,(hs.set q.r x)[q.w]?=some (.dic (QK q)):=fun x=>by rw [List.getElem?_set_ne (Ne.symm n1)];exact hw
 have hw2:∀x y,((hs.set q.r x).set q.w y)[q.w]?=some y:=fun x y=>by simp [lw]
 have hw3:∀x y (r:Hs),((hs.set q.r x).set q.w y++r)[q.w]?=some y:=fun x y r=>Qj (hw2 x y)
 have e1:∀x y z (r:Hs),((hs.set q.r x).set q.w y++r).set q.w z=(hs.set q.r x).set q.w z++r:=fun x y z r=>by rw [List.set_append_left _ _ (by simpa using lw),List.set_set]
 have e2:∀x z (r:Hs),(hs.set q.r x++r).set q.w z=(hs.set q.r x).set q.w z++r:=fun x z r=>by rw [List.set_append_left _ _ (by simpa using lw)]
 simp only [b7,dd,Qo,Q3,QL,Zo,Qcn,y_c,Qi,Zq,Zs,Qco,evs,s_R hw,s_N hw,Yo hr,Yr hr l1,Option.map,if_true,List.getElem?_cons_zero,s_G (hw1 _),p_L (hw1 _)];rw [p_G (hw3 _ _ _)];simp only [List.getElem?_cons_zero,Qo,e1,List.append_assoc,List.length_set,List.length_append,List.cons_append,List.nil_append];rw [p_N (hw3 _ _ _)];simp only [e1,fin,JR,e2,List.length_set,List.length_append,List.append_assoc];rfl
theorem cl8{s:List U}{m:Nat}{a b c:U}{hs:Hs}:Qa (tb s) (m+1) 8 [a,b,c] hs=fin (exs (tb s) (Qa (tb s) m) dd b8 [some a,some b,some c,none,none] hs):=rfl
noncomputable def kpU(x:Int):U:=.str [([119,120,121,122]:List Nat).getD (x / 3 % 4).toNat 0]
theorem QiM{T:Tbl}{hs:Hs}{x:Int}:QH T (.str [119,120,121,122]) (.int (x / 3 % 4) 0) hs=some (kpU x):=by
 unfold kpU
 have h1:0<=x / 3 % 4:=Int.emod_nonneg _ (by decide)
 have h2:x / 3 % 4<4:=Int.emod_lt_of_pos _ (by decide)
 generalize x / 3 % 4=y at h1 h2
 have:y=0\/y=1\/y=2\/y=3:=by omega
 rcases this with rfl | rfl | rfl | rfl<;>rfl
theorem dv3{x:Int}:Qcf (.int x 0) (.int 3 0)=some (.int (x / 3) 0):=by
 have h:(decide ((0:Int) < 3)&&decide ((3:Int) < 1606938044258990275541962092341162602522202993782792835301376))=true:=by decide
 simp only [Qcf];rw [if_pos h]
theorem md{x j:Int}(h:0<j):Qle (.int x 0) (.int j 0)=some (.int (x % j) 0):=by simp only [Qle];rw [if_pos h]
theorem Qgc{x:Int}:Y6 (kpU x)=true:=rfl
theorem Qlt{T:Tbl}{p:Nat}{hs:Hs}{kvs:List (U×U)}{x:Int}{v:U}(h:hs[p]?=some (.dic kvs)):bmU T .get (.ref p) [kpU x,v] hs=some ((QF kvs (kpU x)).getD v,hs):=by
 simp only [bmU,h,bmD,Qgc,if_true]
theorem Qkr{p:Nat}{hs:Hs}{kvs:List (U×U)}(h:hs[p]?=some (.dic kvs)):QaV .get (.ref p) hs=true:=by simp only [QaV,h];rfl
theorem Qkq{p:Nat}{hs:Hs}{kvs:List (U×U)}(h:hs[p]?=some (.dic kvs)):QaV .setdef (.ref p) hs=true:=by simp only [QaV,h];rfl
theorem Qky{p:Nat}{hs:Hs}{kvs:List (U×U)}{x:Int}{v:U}(h:hs[p]?=some (.dic kvs))(hl:kvs.length<1000000):QaX (.ref p) (kpU x) v hs=some (hs.set p (.dic (ZJ kvs (kpU x) v))):=by
 simp only [QaX,h,Qbh,Qgc,hl,true_and,if_true]
noncomputable def Qac(pk:List (U×U))(rn:Nat)(x:Int):Bool:=decide (0<x % 3)&&(match (QF pk (kpU x)).getD (.int rn 0)with | .int i 0=>decide (i=rn) | _=>false)
theorem Qbo{T:Tbl}{cf:Cf}{d:Nat}{q:Pl}{hs:Hs}{pk:List (U×U)}{rn:Nat}{x:Int}{u:U}(hw:hs[q.w]?=some (.dic (QK q)))(hp:hs[q.p]?=some (.dic pk))(hv:∀u,QF pk (kpU x)=some u->∃i,u=.int i 0):
  evT T cf (d+20) (.and (.cmp .Gt (.op .Mod (.var 2) (.c (.int 3 0))) (.c (.int 0 0))) (.cmp .Eq (.bm .get (.ix (.var 0) (.c (.str [112,117,116]))) [(.var 3),(.var 4)]) (.var 4))) [some (.ref q.w),some u,some (.int x 0),some (kpU x),some (.int rn 0)] hs=some (Qac pk rn x,hs):=by
 obtain⟨i,hi⟩:∃i,(QF pk (kpU x)).getD (.int rn 0)=.int i 0:=by
  cases e:QF pk (kpU x)with
  | none=>exact⟨_,rfl⟩
  | some v=>obtain⟨i,rfl⟩:=hv v e;exact⟨i,rfl⟩
 have m3:=md (x:=x) (j:=3) (by decide)
 by_cases h3:0<x % 3
 ·simp [Qac,Qo,JS,QP,Q6,Yi,Qco,Qi,y_c,Zq,evs,opU,m3,s_P hw,Qkr hp,Qlt hp,hi,h3,Zn,eq_int,Zj]
 ·simp [Qac,Qo,JS,QP,Q6,Yi,Qco,Qi,y_c,Zq,evs,opU,m3,s_P hw,Qkr hp,Qlt hp,hi,h3,Zn,eq_int,Zj]
noncomputable def QoB(q:Pl)(os:List U)(u:U)(hs:Hs):Hs:=hs.set q.o (O.lst (os++[u]))
theorem Qe3{s:List U}{q:Pl}{hs:Hs}{rs os:List U}{pk:List (U×U)}{m:Nat}{x:Int}{u:U}(hw:hs[q.w]?=some (.dic (QK q)))(hr:hs[q.r]?=some (.lst rs))(hp:hs[q.p]?=some (.dic pk))(hv:∀u,QF pk (kpU x)=some u->∃i,u=.int i 0)
  (ho:hs[q.o]?=some (.lst os)) (l1:os.length<1000000) (hc:Qac pk rs.length x=false):Qa (tb s) (m+1) 8 [.ref q.w,u,.int x 0] hs=some (.non,QoB q os u hs):=by
 rw [cl8];generalize Qa (tb s) m=cf;generalize tb s=T
 have m4:=md (x:=x / 3) (j:=4) (by decide)
 have t:=Qbo (T:=T) (cf:=cf) (d:=76) (u:=u) (rn:=rs.length) hw hp hv;rw [hc]at t;simp only [Nat.reduceAdd]at t;simp only [b8,dd,QL,Yh,Qo,Zq,y_c,Yi,Qi,opU,dv3,m4,QiM,Yy,evs,s_R hw,Zb hr,Yj,List.getElem?_cons_zero,List.getElem?_cons_succ,List.set_cons_zero,List.set_cons_succ,Option.map];rw [t];simp [Qo,Zo,Qco,Zq,y_c,Qi,evs,s_O hw,Yo ho,Yr ho l1,Q3,fin,QoB]
noncomputable def Qne(q:Pl)(pk:List (U×U))(rn j:Nat)(ks:List U)(x:Int)(u:U)(hs:Hs):Hs:=(List.set hs q.p (O.dic (ZJ pk (kpU x) (.int rn 0)))++[O.lst []]).set j (O.lst (ks++[u]))
theorem Qe2{s:List U}{q:Pl}{hs:Hs}{rs ks:List U}{pk kk:List (U×U)}{m j:Nat}{x:Int}{u:U}(hw:hs[q.w]?=some (.dic (QK q)))(hr:hs[q.r]?=some (.lst rs))(hp:hs[q.p]?=some (.dic pk))(hk:hs[q.k]?=some (.dic kk))(hv:∀u,QF pk (kpU x)=some u->∃i,u=.int i 0)
  (hj:Zr kk (kpU x)=some (.ref j)) (hh:hs[j]?=some (.lst ks)) (n1:q.w≠q.p) (n2:q.k≠q.p) (n3:j≠q.p) (l1:ks.length<1000000) (l2:pk.length<1000000) (l3:kk.length<1000000)
  (hc:Qac pk rs.length x=true):Qa (tb s) (m+1) 8 [.ref q.w,u,.int x 0] hs=some (.non,Qne q pk rs.length j ks x u hs):=by
 rw [cl8];generalize Qa (tb s) m=cf;generalize tb s=T
 have m4:=md (x:=x / 3) (j:=4) (by decide)
 have t:=Qbo (T:=T) (cf:=cf) (d:=76) (u:=u) (rn:=rs.length) hw hp hv;rw [hc]at t;simp only [Nat.reduceAdd]at t
 have hw1:∀y,(hs.set q.p y)[q.w]?=some (.dic (QK q)):=fun y=>by rw [List.getElem?_set_ne (Ne.symm n1)];exact hw
 have hk1:∀y,(hs.set q.p y)[q.k]?=some (.dic kk):=fun y=>by rw [List.getElem?_set_ne (Ne.symm n2)];exact hk
 have hj1:∀y (r:Hs),(hs.set q.p y++r)[j]?=some (.lst ks):=fun y r=>Qj (by rw [List.getElem?_set_ne (Ne.symm n3)];exact hh)
 have sd:∀y (r:Hs) v,bmU T .setdef (.ref q.k) [kpU x,v] (hs.set q.p y++r)=some (.ref j,hs.set q.p y++r):=fun y r v=>by
  simp only [bmU,Qj (hk1 y),bmD,Qgc,l3,hj,and_self,if_true]
 simp only [b8,dd,QL,Yh,Qo,Zq,y_c,Yi,Qi,opU,dv3,m4,QiM,Yy,evs,s_R hw,Zb hr,Yj,List.getElem?_cons_zero,List.getElem?_cons_succ,List.set_cons_zero,List.set_cons_succ,Option.map];rw [t];simp [Qo,QL,Qcn,Zo,Qco,Zq,Zs,y_c,Qi,evs,s_P hw,Qky hp l2,s_K (hw1 _),Qkq (hk1 _),sd,Yo (hj1 _ _),Yr (hj1 _ _) l1,Q3,fin,Qne]
noncomputable def Qk9(q:Pl)(pk kk:List (U×U))(rn:Nat)(x:Int)(u:U)(hs:Hs):Hs:=(List.set (List.set hs q.p (O.dic (ZJ pk (kpU x) (.int rn 0)))++[O.lst []]) q.k (O.dic (kk++[(kpU x,U.ref hs.length)]))).set hs.length (O.lst [u])
theorem Qe4{s:List U}{q:Pl}{hs:Hs}{rs:List U}{pk kk:List (U×U)}{m:Nat}{x:Int}{u:U}(hw:hs[q.w]?=some (.dic (QK q)))(hr:hs[q.r]?=some (.lst rs))(hp:hs[q.p]?=some (.dic pk))(hk:hs[q.k]?=some (.dic kk))(hv:∀u,QF pk (kpU x)=some u->∃i,u=.int i 0)
  (hj:Zr kk (kpU x)=none) (n1:q.w≠q.p) (n2:q.k≠q.p) (l2:pk.length<1000000) (l3:kk.length<1000000)
  (hc:Qac pk rs.length x=true):Qa (tb s) (m+1) 8 [.ref q.w,u,.int x 0] hs=some (.non,Qk9 q pk kk rs.length x u hs):=by
 rw [cl8];generalize Qa (tb s) m=cf;generalize tb s=T
 have m4:=md (x:=x / 3) (j:=4) (by decide)
 have t:=Qbo (T:=T) (cf:=cf) (d:=76) (u:=u) (rn:=rs.length) hw hp hv;rw [hc]at t;simp only [Nat.reduceAdd]at t;have lk:q.k<hs.length:=(List.getElem?_eq_some_iff.mp hk).1
 have hw1:∀y,(hs.set q.p y)[q.w]?=some (.dic (QK q)):=fun y=>by rw [List.getElem?_set_ne (Ne.symm n1)];exact hw
 have hk1:∀y,(hs.set q.p y)[q.k]?=some (.dic kk):=fun y=>by rw [List.getElem?_set_ne (Ne.symm n2)];exact hk
 have sd:∀y (r:Hs) v,bmU T .setdef (.ref q.k) [kpU x,v] (hs.set q.p y++r)=some (v,(hs.set q.p y++r).set q.k (.dic (kk++[(kpU x,v)]))):=fun y r v=>by
  simp only [bmU,Qj (hk1 y),bmD,Qgc,l3,hj,and_self,if_true]
 have hj1:∀y z,((hs.set q.p y++[O.lst []]).set q.k z)[hs.length]?=some (.lst []):=fun y z=>by
  rw [List.getElem?_set_ne (by omega)]
  have:=at0 (hs:=hs.set q.p y) (a:=O.lst []) (r:=[]);rw [List.length_set]at this;exact this
 simp only [b8,dd,QL,Yh,Qo,Zq,y_c,Yi,Qi,opU,dv3,m4,QiM,Yy,evs,s_R hw,Zb hr,Yj,List.getElem?_cons_zero,List.getElem?_cons_succ,List.set_cons_zero,List.set_cons_succ,Option.map];rw [t]
 simp [Qo,QL,Qcn,Zo,Qco,Zq,Zs,y_c,Qi,evs,s_P hw,Qky hp l2,s_K (hw1 _),Qkq (hk1 _),sd,Yo (hj1 _ _),Yr (hj1 _ _) (by decide:([]:List U).length<1000000),Q3,fin,Qk9]
noncomputable def Cells(hs:Hs)(cs:List (Nat×O)):Prop:=(∀p∈cs,hs[p.1]?=some p.2)/\(cs.map (·.1)).Nodup
theorem Cells.app{hs r:Hs}{cs:List (Nat×O)}(h:Cells hs cs):Cells (hs++r) cs:=⟨fun p m=>Qj (h.1 p m),h.2⟩
theorem Cells.lt{hs:Hs}{cs:List (Nat×O)}(h:Cells hs cs){p:Nat×O}(m:p∈cs):p.1<hs.length:=(List.getElem?_eq_some_iff.mp (h.1 p m)).1
theorem Cells.set{hs:Hs}{as bs:List (Nat×O)}{i:Nat}{x y:O}(h:Cells hs (as++(i,x)::bs)):Cells (hs.set i y) (as++(i,y)::bs):=by
 obtain⟨h1,h2⟩:=h
 have li:i<hs.length:=(List.getElem?_eq_some_iff.mp (h1 (i,x) (by simp))).1
 rw [List.map_append,List.map_cons]at h2
 refine⟨fun p m=>?_,by rw [List.map_append,List.map_cons];exact h2⟩
 rcases List.mem_append.mp m with m | m
 ·have ne:i≠p.1:=fun z=>by
   have h3:=(List.nodup_append.mp h2).2.2 p.1 (List.mem_map.mpr ⟨p,m,rfl⟩) i (by simp)
   exact h3 z.symm
  rw [List.getElem?_set_ne ne];exact h1 p (List.mem_append_left _ m)
 ·rcases List.mem_cons.mp m with rfl | m
  ·simp [li]
  ·have ne:i≠p.1:=fun z=>by
    have h3:=(List.nodup_cons.mp (List.nodup_append.mp h2).2.1).1;exact h3 (z▸List.mem_map.mpr ⟨p,m,rfl⟩)
   rw [List.getElem?_set_ne ne];exact h1 p (List.mem_append_right _ (List.mem_cons_of_mem _ m))
noncomputable def TK(hs hs':Hs):Prop:=∀(i:Nat) us,hs[i]?=some (.tup us)->hs'[i]?=some (.tup us)
theorem TK.refl{hs:Hs}:TK hs hs:=fun _ _ h=>h
theorem TK.trans{a b c:Hs}(h:TK a b)(h':TK b c):TK a c:=fun i us e=>h' i us (h i us e)
theorem TK.app{hs r:Hs}:TK hs (hs++r):=fun i us h=>Qj h
theorem TK.set{hs:Hs}{i:Nat}{x y:O}(h:hs[i]?=some x)(n:∀us,x≠.tup us):TK hs (hs.set i y):=fun j us e=>by
 have ne:i≠j:=fun z=>by rw [z,e]at h;cases h;exact n us rfl
 rw [List.getElem?_set_ne ne];exact e
noncomputable abbrev Nm:=Int×Int
structure Lp where
 ps:List Nm
 sd:Int
 lf:Int
noncomputable def DN(hs:Hs)(u:U)(a:Nm):Prop:=∃i,u=.ref i/\hs[i]?=some (.tup [.int a.1 0,.int a.2 0])
noncomputable def DL(hs:Hs)(u:U)(a:Lp):Prop:=∃i j us,u=.ref i/\hs[i]?=some (.tup [.ref j,.int a.sd 0,.int a.lf 0])/\hs[j]?=some (.tup us)/\PySem.Paired (DN hs) us a.ps
theorem DN.mono{hs hs':Hs}(t:TK hs hs'){u:U}{a:Nm}(h:DN hs u a):DN hs' u a:=let ⟨i,e,h⟩:=h;⟨i,e,t _ _ h⟩
theorem Qc{α β:Type}{P Q:α->β->Prop}(f:∀a b,P a b->Q a b):∀{l:List α} {r:List β},PySem.Paired P l r->PySem.Paired Q l r
 | _,_,.nil=>.nil
 | _,_,.cons h t=>.cons (f _ _ h) (Qc f t)
theorem QC{α β:Type}{P:α->β->Prop}{a:α}{b:β}(h:P a b):∀{l:List α} {r:List β},PySem.Paired P l r->PySem.Paired P (l++[a]) (r++[b])
 | _,_,.nil=>.cons h .nil
 | _,_,.cons h' t=>.cons h' (QC h t)
theorem Qg{α β:Type}{P:α->β->Prop}:∀{l:List α} {r:List β},PySem.Paired P l r->l.length=r.length
 | _,_,.nil=>rfl
 | _,_,.cons _ t=>by simp [Qg t]
theorem DL.mono{hs hs':Hs}(t:TK hs hs'){u:U}{a:Lp}(h:DL hs u a):DL hs' u a:=let ⟨i,j,us,e,h1,h2,h3⟩:=h;⟨i,j,us,e,t _ _ h1,t _ _ h2,Qc (fun _ _=>DN.mono t) h3⟩
noncomputable def DR(hs:Hs)(M:List Nat)(u:U)(a:List Lp):Prop:=∃i us,u=.ref i/\hs[i]?=some (.lst us)/\i∉M/\PySem.Paired (DL hs) us a
structure Ws where
 rows:List (List Lp)
 left:List Nm
 given:List Nm
 new:List Lp
 put:List (U×U)
 kept:List (U×List Nm)
 off:List Nm
structure Ct where
 rr:List U
 gs:List U
 ns:List U
 os:List U
 ls:List U
 kc:List (U×Nat×List U)
noncomputable def cells(q:Pl)(c:Ct)(W:Ws):List (Nat×O):=[(q.w,.dic (QK q)),(q.r,.lst c.rr),(q.g,.lst c.gs),(q.n,.lst c.ns),(q.p,.dic W.put),(q.k,.dic (c.kc.map fun x=>(x.1,.ref x.2.1))),(q.o,.lst c.os)]++c.kc.map fun x=>(x.2.1,.lst x.2.2)
structure Rst(hs:Hs)(M:List Nat)(l:Nat)(c:Ct)(W:Ws):Prop where
 rr:PySem.Paired (DR hs M) c.rr W.rows
 gs:PySem.Paired (DN hs) c.gs W.given
 ns:PySem.Paired (DL hs) c.ns W.new
 os:PySem.Paired (DN hs) c.os W.off
 hl:hs[l]?=some (.lst c.ls)
 nl:l∉M
 ls:PySem.Paired (DN hs) c.ls W.left
 kc:PySem.Paired (fun(x:U×Nat×List U) (y:U×List Nm)=>x.1=y.1/\PySem.Paired (DN hs) x.2.2 y.2) c.kc W.kept
theorem DR.mono{hs hs':Hs}{M M':List Nat}(t:TK hs hs')(k:∀(i:Nat) us,hs[i]?=some (.lst us)->i∉M->hs'[i]?=some (.lst us)/\i∉M'){u:U}{a:List Lp}(h:DR hs M u a):DR hs' M' u a :=
 let ⟨i,us,e,h1,h2,h3⟩:=h;⟨i,us,e,(k i us h1 h2).1,(k i us h1 h2).2,Qc (fun _ _=>DL.mono t) h3⟩
theorem Rst.mono{hs hs':Hs}{M M':List Nat}{l:Nat}{c:Ct}{W:Ws}(h:Rst hs M l c W)(t:TK hs hs')(k:∀(i:Nat) us,hs[i]?=some (.lst us)->i∉M->hs'[i]?=some (.lst us)/\i∉M'):Rst hs' M' l c W where
 rr:=Qc (fun _ _=>DR.mono t k) h.rr
 gs:=Qc (fun _ _=>DN.mono t) h.gs
 ns:=Qc (fun _ _=>DL.mono t) h.ns
 os:=Qc (fun _ _=>DN.mono t) h.os
 hl:=(k _ _ h.hl h.nl).1
 nl:=(k _ _ h.hl h.nl).2
 ls:=Qc (fun _ _=>DN.mono t) h.ls
 kc:=Qc (fun _ _ r=>⟨r.1,Qc (fun _ _=>DN.mono t) r.2⟩) h.kc
noncomputable def Qs(q:Pl)(c:Ct):List Nat:=[q.w,q.r,q.g,q.n,q.p,q.k,q.o]++c.kc.map (·.2.1)
theorem Yg(q:Pl)(c:Ct)(W:Ws):(cells q c W).map (·.1)=Qs q c:=by simp [cells,Qs]
structure Web(hs:Hs)(q:Pl)(c:Ct)(W:Ws):Prop where
 cs:Cells hs (cells q c W)
 rs:Rst hs (Qs q c) q.l c W
theorem Web.app{hs r:Hs}{q:Pl}{c:Ct}{W:Ws}(h:Web hs q c W):Web (hs++r) q c W:=⟨h.cs.app,h.rs.mono TK.app fun i us e n=>⟨Qj e,n⟩⟩
theorem Zz{hs:Hs}{M:List Nat}{j:Nat}{y:O}(m:j∈M):∀(i:Nat) us,hs[i]?=some (.lst us)->i∉M->(hs.set j y)[i]?=some (.lst us)/\i∉M:=fun i us e n=>by
 have ne:j≠i:=fun z=>n (z▸m)
 exact⟨by rw [List.getElem?_set_ne ne];exact e,n⟩
theorem Web.pushG{hs:Hs}{q:Pl}{c:Ct}{W:Ws}{u:U}{a:Nm}(h:Web hs q c W)(hu:DN hs u a):Web (hs.set q.g (.lst (c.gs++[u]))) q { c with gs:=c.gs++[u] } { W with given:=W.given++[a] }:=by
 have hg:=h.cs.1 (q.g,.lst c.gs) (by simp [cells])
 have t:TK hs (hs.set q.g (.lst (c.gs++[u]))):=TK.set hg (by simp)
 have R:=h.rs.mono t (Zz (y:=.lst (c.gs++[u])) (show q.g∈Qs q c by simp [Qs]))
 exact⟨Cells.set (as:=[_,_]) h.cs,⟨R.rr,QC (hu.mono t) R.gs,R.ns,R.os,R.hl,R.nl,R.ls,R.kc⟩⟩
theorem Web.pushN{hs:Hs}{q:Pl}{c:Ct}{W:Ws}{u:U}{a:Lp}(h:Web hs q c W)(hu:DL hs u a):Web (hs.set q.n (.lst (c.ns++[u]))) q { c with ns:=c.ns++[u] } { W with new:=W.new++[a] }:=by
 have hg:=h.cs.1 (q.n,.lst c.ns) (by simp [cells])
 have t:TK hs (hs.set q.n (.lst (c.ns++[u]))):=TK.set hg (by simp)
 have R:=h.rs.mono t (Zz (y:=.lst (c.ns++[u])) (show q.n∈Qs q c by simp [Qs]))
 exact⟨Cells.set (as:=[_,_,_]) h.cs,⟨R.rr,R.gs,QC (hu.mono t) R.ns,R.os,R.hl,R.nl,R.ls,R.kc⟩⟩
theorem Web.pushO{hs:Hs}{q:Pl}{c:Ct}{W:Ws}{u:U}{a:Nm}(h:Web hs q c W)(hu:DN hs u a):Web (hs.set q.o (.lst (c.os++[u]))) q { c with os:=c.os++[u] } { W with off:=W.off++[a] }:=by
 have hg:=h.cs.1 (q.o,.lst c.os) (by simp [cells])
 have t:TK hs (hs.set q.o (.lst (c.os++[u]))):=TK.set hg (by simp)
 have R:=h.rs.mono t (Zz (y:=.lst (c.os++[u])) (show q.o∈Qs q c by simp [Qs]))
 exact⟨Cells.set (as:=[_,_,_,_,_,_]) h.cs,⟨R.rr,R.gs,R.ns,QC (hu.mono t) R.os,R.hl,R.nl,R.ls,R.kc⟩⟩
theorem Web.setP{hs:Hs}{q:Pl}{c:Ct}{W:Ws}{pk:List (U×U)}(h:Web hs q c W):Web (hs.set q.p (.dic pk)) q c { W with put:=pk }:=by
 have hg:=h.cs.1 (q.p,.dic W.put) (by simp [cells])
 have t:TK hs (hs.set q.p (.dic pk)):=TK.set hg (by simp)
 have R:=h.rs.mono t (Zz (y:=.dic pk) (show q.p∈Qs q c by simp [Qs]))
 exact⟨Cells.set (as:=[_,_,_,_]) h.cs,⟨R.rr,R.gs,R.ns,R.os,R.hl,R.nl,R.ls,R.kc⟩⟩
noncomputable def Frm(hs hs':Hs)(M:List Nat):Prop:=∀(i:Nat) x,hs[i]?=some x->i∉M->hs'[i]?=some x
theorem Frm.refl{hs:Hs}{M:List Nat}:Frm hs hs M:=fun _ _ e _=>e
theorem Frm.app{hs r:Hs}{M:List Nat}:Frm hs (hs++r) M:=fun _ _ e _=>Qj e
theorem Frm.set{hs:Hs}{M:List Nat}{j:Nat}{y:O}(m:j∈M):Frm hs (hs.set j y) M:=fun i x e n=>by
 have ne:j≠i:=fun z=>n (z▸m);rw [List.getElem?_set_ne ne];exact e
theorem Frm.trans{a b c:Hs}{M:List Nat}(h:Frm a b M)(h':Frm b c M):Frm a c M:=fun i x e n=>h' i x (h i x e n) n
noncomputable def Q8(W:Ws)(nms:List Nm)(c z:Int):Ws:={ W with given:=W.given++[((W.rows.length:Int),(W.new.length:Int))],new:=W.new++[⟨nms,YE nms.length c,z⟩] }
theorem Web.mem{hs:Hs}{q:Pl}{c:Ct}{W:Ws}(h:Web hs q c W){p:Nat×O}(m:p∈cells q c W):hs[p.1]?=some p.2:=h.cs.1 p m
theorem Web.nd{hs:Hs}{q:Pl}{c:Ct}{W:Ws}(h:Web hs q c W):(Qs q c).Nodup:=Yg q c W▸h.cs.2
theorem YB{s:List U}{hs:Hs}{q:Pl}{c:Ct}{W:Ws}{pa m:Nat}{ps:List U}{nms:List Nm}{x z:Int}(h:Web hs q c W)(hp:hs[pa]?=some (.lst ps))(np:pa∉Qs q c)(dp:PySem.Paired (DN hs) ps nms)(l1:c.gs.length<1000000)(l2:c.ns.length<1000000):
  ∃hs' c',Qa (tb s) (m+1) 6 [.ref q.w,.ref pa,.int x 0,.int z 0] hs=some (.non,hs')/\Web hs' q c' (Q8 W nms x z)/\Qs q c'=Qs q c/\c'.gs.length=c.gs.length+1/\c'.ns.length=c.ns.length+1/\Frm hs hs' (Qs q c)/\TK hs hs':=by
 have hw:=h.mem (p:=(q.w,_)) (by simp [cells];exact .inl rfl)
 have hr:=h.mem (p:=(q.r,.lst c.rr)) (by simp [cells])
 have hg:=h.mem (p:=(q.g,.lst c.gs)) (by simp [cells])
 have hn:=h.mem (p:=(q.n,.lst c.ns)) (by simp [cells])
 have nd:=h.nd;simp only [Qs,List.cons_append,List.nodup_cons,List.mem_cons,not_or]at nd
 have n4:pa≠q.g:=fun e=>np (by simp [Qs,e])
 have er:=Qg h.rs.rr;have en:=Qg h.rs.ns;have ep:=Qg dp;have h1:=h.app (r:=[O.tup [U.int c.rr.length 0,U.int c.ns.length 0]])
 have h2:=h1.pushG (u:=.ref hs.length) (a:=((W.rows.length:Int),(W.new.length:Int))) ⟨hs.length,rfl,by rw [at0,er,en]⟩
 have h3:=h2.app (r:=[O.tup ps,O.tup [U.ref (hs.length+1),U.int (YE ps.length x) 0,U.int z 0]])
 have tk:TK hs (List.set (hs++[O.tup [U.int c.rr.length 0,U.int c.ns.length 0]]) q.g (O.lst (c.gs++[.ref hs.length]))++[O.tup ps,O.tup [U.ref (hs.length+1),U.int (YE ps.length x) 0,U.int z 0]]):=
  TK.app.trans ((TK.set (Qj hg) (by simp)).trans TK.app)
 have lx:(List.set (hs++[O.tup [U.int c.rr.length 0,U.int c.ns.length 0]]) q.g (O.lst (c.gs++[.ref hs.length]))).length=hs.length+1:=by simp
 have h4:=h3.pushN (u:=.ref (hs.length+2)) (a:=⟨nms,YE nms.length x,z⟩) ⟨hs.length+2,hs.length+1,ps,rfl,by
   rw [List.getElem?_append_right (by omega),lx,<-ep];simp,by
   rw [List.getElem?_append_right (by omega),lx];simp,Qc (fun _ _=>DN.mono tk) dp⟩
 have hn3:=h3.mem (p:=(q.n,.lst c.ns)) (by simp [cells])
 refine⟨_,_,Qjg (z:=z) hw hr hg hn hp nd.1.2.1 nd.2.1.1 (Ne.symm nd.2.2.1.1) n4 l1 l2,h4,rfl,by simp,by simp,?_,tk.trans (TK.set hn3 (by simp))⟩
 exact Frm.app.trans ((Frm.set (by simp [Qs])).trans (Frm.app.trans (Frm.set (by simp [Qs]))))
noncomputable def Q1(W:Ws):Ws:={ W with rows:=W.rows++[W.new],left:=W.given,given:=[],new:=[] }
noncomputable def Qfl(q:Pl)(c:Ct):Ct:={ c with rr:=c.rr++[.ref q.n],gs:=[],ns:=[],ls:=c.gs }
theorem Qms{s:List U}{hs:Hs}{q:Pl}{c:Ct}{W:Ws}{m:Nat}(h:Web hs q c W)(l1:c.rr.length<1000000):
  Qa (tb s) (m+1) 7 [.ref q.w] hs=some (.non,JR q c.rr hs)/\Web (JR q c.rr hs) (QeG q hs) (Qfl q c) (Q1 W)/\Frm hs (JR q c.rr hs) (Qs q c)/\TK hs (JR q c.rr hs):=by
 have hw:=h.mem (p:=(q.w,_)) (by simp [cells];exact .inl rfl)
 have hr:=h.mem (p:=(q.r,.lst c.rr)) (by simp [cells])
 have hg:=h.mem (p:=(q.g,.lst c.gs)) (by simp [cells])
 have hn:=h.mem (p:=(q.n,.lst c.ns)) (by simp [cells])
 have hp:=h.mem (p:=(q.p,.dic W.put)) (by simp [cells])
 have hk:=h.mem (p:=(q.k,.dic (c.kc.map fun x=>(x.1,.ref x.2.1)))) (by simp [cells])
 have ho:=h.mem (p:=(q.o,.lst c.os)) (by simp [cells])
 have nd:=h.nd;have nd0:=h.nd;simp only [Qs,List.cons_append,List.nil_append,List.nodup_cons,List.mem_cons,not_or]at nd;obtain⟨⟨a1,a2,a3,a4,a5,a6,a7⟩,⟨b1,b2,b3,b4,b6,b7⟩,⟨c1,c2,c3,c4,c5⟩,⟨d1,d2,d3,d4⟩,⟨e1,e2,e3⟩,⟨f1,f2⟩,g1,nk⟩:=nd;have lt:∀{i:Nat} {x:O},hs[i]?=some x->i<hs.length:=fun e=>(List.getElem?_eq_some_iff.mp e).1
 have g:∀(i:Nat) x,hs[i]?=some x->i≠q.w->i≠q.r->(JR q c.rr hs)[i]?=some x:=fun i x e n1 n2=>by
  unfold JR;rw [List.getElem?_set_ne (Ne.symm n1)];refine Qj ?_;rw [List.getElem?_set_ne (Ne.symm n2)];exact e
 have lx:(List.set hs q.r (O.lst (c.rr++[U.ref q.n]))++[O.lst [],O.lst []]).length=hs.length+2:=by simp
 have tk:TK hs (JR q c.rr hs):=fun i us e=>g i _ e (fun z=>by rw [z,hw]at e;cases e) (fun z=>by rw [z,hr]at e;cases e)
 have hkc:∀x∈c.kc,hs[x.2.1]?=some (.lst x.2.2):=fun x m=>h.mem (p:=(x.2.1,.lst x.2.2)) (by simp only [cells];exact List.mem_append_right _ (List.mem_map.mpr ⟨x,m,rfl⟩))
 have hkn:∀x∈c.kc,x.2.1∈c.kc.map (·.2.1):=fun x m=>List.mem_map.mpr ⟨x,m,rfl⟩
 -- what stays apart
 have ap:∀i,i<hs.length->i≠q.w->i≠q.r->i≠q.p->i≠q.k->i≠q.o->i∉c.kc.map (·.2.1)->i∉Qs (QeG q hs) (Qfl q c):=fun i l z1 z2 z3 z4 z5 z6 m=>by
  simp only [Qs,QeG,Qfl,List.cons_append,List.nil_append,List.mem_cons]at m
  rcases m with m | m | m | m | m | m | m | m
  ·exact z1 m
  ·exact z2 m
  ·omega
  ·omega
  ·exact z3 m
  ·exact z4 m
  ·exact z5 m
  ·exact z6 m
 have old:∀i,i<hs.length->i∉Qs q c->i∉Qs (QeG q hs) (Qfl q c):=fun i l n=>by
  simp only [Qs,List.cons_append,List.nil_append,List.mem_cons,not_or]at n;exact ap i l n.1 n.2.1 n.2.2.2.2.1 n.2.2.2.2.2.1 n.2.2.2.2.2.2.1 n.2.2.2.2.2.2.2
 refine⟨Qe1 hw hr a1 l1,⟨⟨fun p m=>?_,?_⟩,?_⟩,?_,tk⟩
 ·simp only [cells,Qfl,QeG,List.cons_append,List.nil_append,List.mem_cons]at m
  rcases m with rfl | rfl | rfl | rfl | rfl | rfl | rfl | m
  ·show(JR q c.rr hs)[q.w]?=_;unfold JR
   rw [List.getElem?_set_self (by rw [lx];have:=lt hw;omega)]
   rfl
  ·show(JR q c.rr hs)[q.r]?=_;unfold JR;rw [List.getElem?_set_ne a1]
   exact Qj (by rw [List.getElem?_set_self (lt hr)])
  ·show(JR q c.rr hs)[hs.length]?=_;unfold JR
   rw [List.getElem?_set_ne (by have:=lt hw;omega),List.getElem?_append_right (by simp)]
   simp [Q1]
  ·show(JR q c.rr hs)[hs.length+1]?=_;unfold JR
   rw [List.getElem?_set_ne (by have:=lt hw;omega),List.getElem?_append_right (by simp)]
   simp [Q1]
  ·exact g _ _ hp (Ne.symm a4) (Ne.symm b3)
  ·exact g _ _ hk (Ne.symm a5) (Ne.symm b4)
  ·exact g _ _ ho (Ne.symm a6) (Ne.symm b6)
  ·obtain⟨x,mx,rfl⟩:=List.mem_map.mp m;exact g _ _ (hkc x mx) (fun z=>a7 (z▸hkn x mx)) (fun z=>b7 (z▸hkn x mx))
 ·rw [Yg]
  have lk:∀i∈c.kc.map (·.2.1),i<hs.length:=fun i m=>by
   obtain⟨x,mx,rfl⟩:=List.mem_map.mp m;exact lt (hkc x mx)
  have k0:=lt hw;have k1:=lt hr;have k2:=lt hp;have k3:=lt hk;have k4:=lt ho;simp only [Qs,QeG,Qfl,List.cons_append,List.nil_append,List.nodup_cons,List.mem_cons,not_or]
  refine⟨⟨a1,by omega,by omega,a4,a5,a6,a7⟩,⟨by omega,by omega,b3,b4,b6,b7⟩,⟨by omega,by omega,by omega,by omega,fun m=>?_⟩,⟨by omega,by omega,by omega,fun m=>?_⟩,⟨e1,e2,e3⟩,⟨f1,f2⟩,g1,nk⟩
  ·have:=lk _ m;omega
  ·have:=lk _ m;omega
 ·have R:=h.rs.mono (M':=Qs (QeG q hs) (Qfl q c)) tk fun i us e n=>⟨g i _ e (fun z=>n (by simp [Qs,z])) (fun z=>n (by simp [Qs,z])),old i (lt e) n⟩
  have dn:DR (JR q c.rr hs) (Qs (QeG q hs) (Qfl q c)) (.ref q.n) W.new:=⟨q.n,c.ns,rfl,g _ _ hn (Ne.symm a3) (Ne.symm b2),ap _ (lt hn) (Ne.symm a3) (Ne.symm b2) d1 d2 d3 d4,R.ns⟩;exact⟨QC dn R.rr,.nil,.nil,R.os,g _ _ hg (Ne.symm a2) (Ne.symm b1),ap _ (lt hg) (Ne.symm a2) (Ne.symm b1) c2 c3 c4 c5,R.gs,R.kc⟩
 ·exact fun i x e n=>g i x e (fun z=>n (by simp [Qs,z])) (fun z=>n (by simp [Qs,z]))
noncomputable def Zv:List (U×List Nm)->U->Nm->List (U×List Nm)
 | [],k,a=>[(k,[a])]
 | (k',l)::r,k,a=>if k'=k then(k',l++[a])::r else(k',l)::Zv r k a
noncomputable def Zu(W:Ws)(a:Nm)(x:Int):Ws:=if Qac W.put W.rows.length x=true then { W with put:=ZJ W.put (kpU x) (.int W.rows.length 0),kept:=Zv W.kept (kpU x) a }else { W with off:=W.off++[a] }
noncomputable def IntsP(pk:List (U×U)):Prop:=∀p∈pk,∃i,p.2=U.int i 0
theorem IntsP.look{pk:List (U×U)}(h:IntsP pk){k u:U}(e:QF pk k=some u):∃i,u=.int i 0:=by
 simp only [QF,Option.map_eq_some_iff]at e;obtain⟨p,hp,rfl⟩:=e;exact h p (List.mem_of_find?_eq_some hp)
theorem IntsP.put{pk:List (U×U)}(h:IntsP pk){k:U}{i:Int}:IntsP (ZJ pk k (.int i 0)):=by
 intro p m;unfold ZJ at m;split at m
 ·obtain⟨p',m',rfl⟩:=List.mem_map.mp m;split
  ·exact⟨i,rfl⟩
  ·exact h p' m'
 ·rcases List.mem_append.mp m with m | m
  ·exact h p m
  ·rw [List.mem_singleton.mp m];exact⟨i,rfl⟩
theorem Qb6{hs:Hs}{k:U}:∀{kc:List (U×Nat×List U)} {kp:List (U×List Nm)},PySem.Paired (fun(x:U×Nat×List U) (y:U×List Nm)=>x.1=y.1/\PySem.Paired (DN hs) x.2.2 y.2) kc kp ->
  (Zr (kc.map fun x=>(x.1,U.ref x.2.1)) k=none/\∀a,Zv kp k a=kp++[(k,[a])]) \/
  ∃as j ks bs as' ls bs',kc=as++(k,j,ks)::bs/\Zr (kc.map fun x=>(x.1,U.ref x.2.1)) k=some (.ref j)/\kp=as'++(k,ls)::bs'/\(∀a,Zv kp k a=as'++(k,ls++[a])::bs')/\as.length=as'.length
 | _,_,.nil=>.inl ⟨rfl,fun _=>rfl⟩
 | x::r1,y::r2,.cons r t=>by
  by_cases e:x.1=k
  ·refine .inr ⟨[],x.2.1,x.2.2,r1,[],y.2,r2,?_,?_,?_,fun a=>?_,rfl⟩
   ·rw [List.nil_append,<-e]
   ·simp [Zr,e]
   ·rw [List.nil_append,<-e,r.1]
   ·have:y.1=k:=r.1.symm.trans e;simp [Zv,this]
  ·have e':¬y.1=k:=fun z=>e (r.1.trans z)
   rcases Qb6 (k:=k) t with⟨h1,h2⟩ | ⟨as,j,ks,bs,as',ls,bs',h1,h2,h3,h4,h5⟩
   ·refine .inl ⟨?_,fun a=>?_⟩
    ·simpa [Zr,e]using h1
    ·simp [Zv,e',h2]
   ·refine .inr ⟨x::as,j,ks,bs,y::as',ls,bs',by rw [h1];rfl,?_,by rw [h3];rfl,fun a=>?_,by simp [h5]⟩
    ·simpa [Zr,e]using h2
    ·simp [Zv,e',h4]
theorem QdE{α β:Type}{P:α->β->Prop}{x:α}{y:β}{bs:List α}{bs':List β}:∀{as:List α} {as':List β},PySem.Paired P (as++x::bs) (as'++y::bs')->as.length=as'.length->P x y/\∀x' y',P x' y'->PySem.Paired P (as++x'::bs) (as'++y'::bs')
 | [],[],.cons h t,_=>⟨h,fun _ _ h'=>.cons h' t⟩
 | _::_,_::_,.cons h t,l=>let ⟨a,b⟩:=QdE t (by simpa using l);⟨a,fun _ _ h'=>.cons h (b _ _ h')⟩
 | [],_::_,_,l=>by simp at l
 | _::_,[],_,l=>by simp at l
theorem Web.pushK{hs:Hs}{q:Pl}{c:Ct}{W:Ws}{u k:U}{a:Nm}{j:Nat}{ks:List U}{ls:List Nm}{as bs:List (U×Nat×List U)}{as' bs':List (U×List Nm)}(h:Web hs q c W)(hu:DN hs u a)(ek:c.kc=as++(k,j,ks)::bs)(ew:W.kept=as'++(k,ls)::bs')(el:as.length=as'.length):
  Web (hs.set j (.lst (ks++[u]))) q { c with kc:=as++(k,j,ks++[u])::bs } { W with kept:=as'++(k,ls++[a])::bs' }:=by
 have e:cells q c W=([(q.w,.dic (QK q)),(q.r,.lst c.rr),(q.g,.lst c.gs),(q.n,.lst c.ns),(q.p,.dic W.put),(q.k,.dic (c.kc.map fun x=>(x.1,.ref x.2.1))),(q.o,.lst c.os)]++as.map fun x=>(x.2.1,O.lst x.2.2))++(j,O.lst ks)::bs.map fun x=>(x.2.1,O.lst x.2.2):=by
  simp [cells,ek]
 have hj:=h.mem (p:=(j,.lst ks)) (by rw [e];simp)
 have t:TK hs (hs.set j (.lst (ks++[u]))):=TK.set hj (by simp)
 have mj:j∈Qs q c:=by simp [Qs,ek]
 have R:=h.rs.mono t (Zz (y:=.lst (ks++[u])) mj);have C:=Cells.set (y:=.lst (ks++[u])) (e▸h.cs)
 have em:Qs q { c with kc:=as++(k,j,ks++[u])::bs }=Qs q c:=by simp [Qs,ek]
 have kc:=R.kc;rw [ek,ew]at kc;obtain⟨k1,k2⟩:=QdE kc el;refine⟨?_,?_⟩
 ·have e2:cells q { c with kc:=as++(k,j,ks++[u])::bs } { W with kept:=as'++(k,ls++[a])::bs' }=([(q.w,.dic (QK q)),(q.r,.lst c.rr),(q.g,.lst c.gs),(q.n,.lst c.ns),(q.p,.dic W.put),(q.k,.dic (c.kc.map fun x=>(x.1,.ref x.2.1))),(q.o,.lst c.os)]++as.map fun x=>(x.2.1,O.lst x.2.2))++(j,O.lst (ks++[u]))::bs.map fun x=>(x.2.1,O.lst x.2.2):=by
   simp [cells,ek]
  rw [e2];exact C
 ·rw [em];exact⟨R.rr,R.gs,R.ns,R.os,R.hl,R.nl,R.ls,k2 _ _ ⟨rfl,QC (hu.mono t) k1.2⟩⟩
theorem Web.addK{hs:Hs}{q:Pl}{c:Ct}{W:Ws}{u k:U}{a:Nm}(h:Web hs q c W)(hu:DN hs u a):
  Web (((hs++[O.lst []]).set q.k (O.dic ((c.kc.map fun x=>(x.1,U.ref x.2.1))++[(k,U.ref hs.length)]))).set hs.length (O.lst [u])) q { c with kc:=c.kc++[(k,hs.length,[u])] } { W with kept:=W.kept++[(k,[a])] }:=by
 have h1:=h.app (r:=[O.lst []])
 have hk:=h1.mem (p:=(q.k,.dic (c.kc.map fun x=>(x.1,.ref x.2.1)))) (by simp [cells])
 have lk:q.k<hs.length:=(List.getElem?_eq_some_iff.mp (h.mem (p:=(q.k,.dic (c.kc.map fun x=>(x.1,.ref x.2.1)))) (by simp [cells]))).1
 have t1:TK (hs++[O.lst []]) ((hs++[O.lst []]).set q.k (O.dic ((c.kc.map fun x=>(x.1,U.ref x.2.1))++[(k,U.ref hs.length)]))):=TK.set hk (by simp)
 have hx:((hs++[O.lst []]).set q.k (O.dic ((c.kc.map fun x=>(x.1,U.ref x.2.1))++[(k,U.ref hs.length)])))[hs.length]?=some (O.lst []):=by
  rw [List.getElem?_set_ne (by omega)]
  exact at0
 have t2:=TK.set (y:=O.lst [u]) hx (by simp)
 have tk:=t1.trans t2
 have ml:∀i∈Qs q c,i<hs.length:=fun i m=>by
  rw [<-Yg q c W]at m;obtain⟨p,mp,rfl⟩:=List.mem_map.mp m;exact h.cs.lt mp
 have em:Qs q { c with kc:=c.kc++[(k,hs.length,[u])] }=Qs q c++[hs.length]:=by simp [Qs]
 have R:=(h.rs.mono (TK.app.trans tk) (M':=Qs q c++[hs.length]) fun i us e n=>by
  have li:=(List.getElem?_eq_some_iff.mp e).1;refine⟨?_,fun m=>?_⟩
  ·rw [List.getElem?_set_ne (by omega),List.getElem?_set_ne (fun z=>n (by simp [Qs,z]))]
   exact Qj e
  ·rcases List.mem_append.mp m with m | m
   ·exact n m
   ·have:=List.mem_singleton.mp m
    omega)
 refine⟨⟨fun p m=>?_,?_⟩,?_⟩
 ·have g:∀(i:Nat) x,hs[i]?=some x->i≠q.k->(((hs++[O.lst []]).set q.k (O.dic ((c.kc.map fun x=>(x.1,U.ref x.2.1))++[(k,U.ref hs.length)]))).set hs.length (O.lst [u]))[i]?=some x:=fun i x e n=>by
   have li:=(List.getElem?_eq_some_iff.mp e).1
   rw [List.getElem?_set_ne (by omega),List.getElem?_set_ne (Ne.symm n)]
   exact Qj e
  have nd:=h.nd;simp only [Qs,List.cons_append,List.nil_append,List.nodup_cons,List.mem_cons,not_or]at nd;obtain⟨⟨a1,a2,a3,a4,a5,a6,a7⟩,⟨b1,b2,b3,b4,b6,b7⟩,⟨c1,c2,c3,c4,c5⟩,⟨d1,d2,d3,d4⟩,⟨e1,e2,e3⟩,⟨f1,f2⟩,g1,nk⟩:=nd;simp only [cells,List.map_append,List.map_cons,List.map_nil,List.cons_append,List.nil_append,List.mem_cons]at m
  rcases m with rfl | rfl | rfl | rfl | rfl | rfl | rfl | m
  ·exact g _ _ (h.mem (p:=(q.w,.dic (QK q))) (by simp [cells])) a5
  ·exact g _ _ (h.mem (p:=(q.r,.lst c.rr)) (by simp [cells])) b4
  ·exact g _ _ (h.mem (p:=(q.g,.lst c.gs)) (by simp [cells])) c3
  ·exact g _ _ (h.mem (p:=(q.n,.lst c.ns)) (by simp [cells])) d2
  ·exact g _ _ (h.mem (p:=(q.p,.dic W.put)) (by simp [cells])) e1
  ·rw [List.getElem?_set_ne (by omega),List.getElem?_set_self (by simp;omega)]
  ·exact g _ _ (h.mem (p:=(q.o,.lst c.os)) (by simp [cells])) (Ne.symm f1)
  ·rcases List.mem_append.mp m with m | m
   ·obtain⟨x,mx,rfl⟩:=List.mem_map.mp m
    exact g _ _ (h.mem (p:=(x.2.1,.lst x.2.2)) (by simp only [cells];exact List.mem_append_right _ (List.mem_map.mpr ⟨x,mx,rfl⟩))) (fun z=>f2 (z▸List.mem_map.mpr ⟨x,mx,rfl⟩))
   ·rw [List.mem_singleton.mp m]
    rw [List.getElem?_set_self (by simp)]
 ·rw [Yg,em]
  refine List.nodup_append.mpr ⟨h.nd,by simp,fun i m j mj=>?_⟩
  have:=ml i m;rw [List.mem_singleton.mp mj];omega
 ·rw [em];exact⟨R.rr,R.gs,R.ns,R.os,R.hl,R.nl,R.ls,QC ⟨rfl,.cons (hu.mono (TK.app.trans tk)) .nil⟩ R.kc⟩
theorem Qmq{s:List U}{hs:Hs}{q:Pl}{c:Ct}{W:Ws}{u:U}{a:Nm}{x:Int}{m:Nat}(h:Web hs q c W)(hu:DN hs u a)(ip:IntsP W.put)(l1:c.os.length<1000000)(l2:W.put.length<1000000)(l3:c.kc.length<1000000)(l4:∀y∈c.kc,y.2.2.length<1000000):
  ∃hs' c',Qa (tb s) (m+1) 8 [.ref q.w,u,.int x 0] hs=some (.non,hs')/\Web hs' q c' (Zu W a x)/\Frm hs hs' (Qs q c)/\TK hs hs'/\∀i∈Qs q c',i∈Qs q c\/hs.length<=i:=by
 have hw:=h.mem (p:=(q.w,.dic (QK q))) (by simp [cells])
 have hr:=h.mem (p:=(q.r,.lst c.rr)) (by simp [cells])
 have hp:=h.mem (p:=(q.p,.dic W.put)) (by simp [cells])
 have hk:=h.mem (p:=(q.k,.dic (c.kc.map fun x=>(x.1,.ref x.2.1)))) (by simp [cells])
 have ho:=h.mem (p:=(q.o,.lst c.os)) (by simp [cells])
 have nd:=h.nd;simp only [Qs,List.cons_append,List.nil_append,List.nodup_cons,List.mem_cons,not_or]at nd;obtain⟨⟨a1,a2,a3,a4,a5,a6,a7⟩,⟨b1,b2,b3,b4,b6,b7⟩,⟨c1,c2,c3,c4,c5⟩,⟨d1,d2,d3,d4⟩,⟨e1,e2,e3⟩,⟨f1,f2⟩,g1,nk⟩:=nd;have hv:∀u,QF W.put (kpU x)=some u->∃i,u=.int i 0:=fun u e=>ip.look e;have er:=Qg h.rs.rr
 cases hc:Qac W.put W.rows.length x with
 | false =>
  have h1:=h.pushO hu
  have e:Zu W a x={ W with off:=W.off++[a] }:=by unfold Zu;rw [hc];rfl
  exact⟨_,{ c with os:=c.os++[u] },Qe3 hw hr hp hv ho l1 (by rw [er];exact hc),e▸h1,Frm.set (by simp [Qs]),TK.set ho (by simp),fun i mi=>.inl mi⟩
 | true =>
  have hP:=h.setP (pk:=ZJ W.put (kpU x) (.int W.rows.length 0))
  have tP:TK hs (hs.set q.p (.dic (ZJ W.put (kpU x) (.int W.rows.length 0)))):=TK.set hp (by simp)
  have fP:Frm hs (hs.set q.p (.dic (ZJ W.put (kpU x) (.int W.rows.length 0)))) (Qs q c):=Frm.set (by simp [Qs])
  rcases Qb6 (k:=kpU x) h.rs.kc with⟨z1,z2⟩ | ⟨as,j,ks,bs,as',ls,bs',z1,z2,z3,z4,z5⟩
  ·have hA:=hP.addK (k:=kpU x) (hu.mono tP);rw [List.length_set]at hA
   have e:Zu W a x={ W with put:=ZJ W.put (kpU x) (.int W.rows.length 0),kept:=W.kept++[(kpU x,[a])] }:=by unfold Zu;rw [hc,if_pos rfl,z2]
   have lk:q.k<hs.length:=(List.getElem?_eq_some_iff.mp hk).1
   have hk1:=hP.app (r:=[O.lst []]) |>.mem (p:=(q.k,.dic (c.kc.map fun x=>(x.1,.ref x.2.1)))) (by simp [cells])
   refine⟨Qk9 q W.put (c.kc.map fun x=>(x.1,.ref x.2.1)) W.rows.length x u hs,{ c with kc:=c.kc++[(kpU x,hs.length,[u])] },?_,?_,?_,?_,?_⟩
   ·have:=Qe4 (s:=s) (m:=m) (u:=u) hw hr hp hk hv z1 a4 (Ne.symm e1) l2 (by rw [List.length_map];exact l3) (by rw [er];exact hc)
    rw [er]at this;exact this
   ·rw [e];exact hA
   ·intro i y e n;have li:=(List.getElem?_eq_some_iff.mp e).1;unfold Qk9
    rw [List.getElem?_set_ne (by omega),List.getElem?_set_ne (fun z=>n (by simp [Qs,z]))]
    exact Qj (fP i y e n)
   ·unfold Qk9
    refine tP.trans (TK.app.trans ((TK.set hk1 (by simp)).trans (TK.set (x:=.lst []) ?_ (by simp))))
    rw [List.getElem?_set_ne (by omega)]
    have:=at0 (hs:=hs.set q.p (.dic (ZJ W.put (kpU x) (.int W.rows.length 0)))) (a:=O.lst []) (r:=[]);rw [List.length_set]at this;exact this
   ·intro i mi
    have em:Qs q { c with kc:=c.kc++[(kpU x,hs.length,[u])] }=Qs q c++[hs.length]:=by simp [Qs]
    rw [em]at mi
    rcases List.mem_append.mp mi with mi | mi
    ·exact .inl mi
    ·exact .inr (by rw [List.mem_singleton.mp mi];exact Nat.le_refl _)
  ·have hA:=(hP.app (r:=[O.lst []])).pushK ((hu.mono tP).mono TK.app) z1 z3 z5
   have e:Zu W a x={ W with put:=ZJ W.put (kpU x) (.int W.rows.length 0),kept:=as'++(kpU x,ls++[a])::bs' }:=by unfold Zu;rw [hc,if_pos rfl,z4]
   have mx:(kpU x,j,ks)∈c.kc:=by rw [z1];simp
   have hj:=h.mem (p:=(j,.lst ks)) (by simp only [cells];exact List.mem_append_right _ (List.mem_map.mpr ⟨_,mx,rfl⟩))
   have mj:j∈c.kc.map (·.2.1):=List.mem_map.mpr ⟨_,mx,rfl⟩
   have hj1:=(hP.app (r:=[O.lst []])).mem (p:=(j,.lst ks)) (by simp only [cells];exact List.mem_append_right _ (List.mem_map.mpr ⟨_,mx,rfl⟩))
   refine⟨Qne q W.put W.rows.length j ks x u hs,{ c with kc:=as++(kpU x,j,ks++[u])::bs },?_,?_,?_,?_,?_⟩
   ·have:=Qe2 (s:=s) (m:=m) (u:=u) hw hr hp hk hv z2 hj a4 (Ne.symm e1) (fun z=>e3 (z▸mj)) (l4 _ mx) l2 (by rw [List.length_map];exact l3) (by rw [er];exact hc)
    rw [er]at this;exact this
   ·rw [e];exact hA
   ·exact fP.trans (Frm.app.trans (Frm.set (by simp [Qs,z1])))
   ·exact tP.trans (TK.app.trans (TK.set hj1 (by simp)))
   ·intro i mi
    have em:Qs q { c with kc:=as++(kpU x,j,ks++[u])::bs }=Qs q c:=by simp [Qs,z1]
    rw [em]at mi;exact .inl mi
noncomputable def QI(W:Ws)(nms:List Nm)(x z:Int):Ws:=nms.foldl (fun W a=>Q8 W [a] x z) W
theorem Qps{x:Int}:Qcf (.int x 0) (.int 14 0)=some (.int (x / 14) 0):=by
 have h:(decide ((0:Int) < 14)&&decide ((14:Int) < 1606938044258990275541962092341162602522202993782792835301376))=true:=by decide
 simp only [Qcf];rw [if_pos h]
theorem Ji{s:List U}{m d:Nat}{q:Pl}{L so:Nat}{us:List U}{el:E}{x z:Int}{ct lf:U}(hel:∀o (hs:Hs),ev (tb s) (Qa (tb s) (m+1)) (d+17) el [some (.ref q.w),some (.ref so),some (.int x 0),some ct,some lf,o] hs=some (.int z 0,hs)):
  ∀{vs:List U} {nms:List Nm} {i k:Nat} {hs:Hs} {c:Ct} {W:Ws} {o:Option U},us.drop i=vs->Web hs q c W->hs[L]?=some (.lst us)->L∉Qs q c->PySem.Paired (DN hs) vs nms->c.gs.length+vs.length<1000000->c.ns.length+vs.length<1000000->vs.length<k ->
  ∃hs' c' o',ZE (tb s) (.seqL (.ref L)) (.name 5) (exs (tb s) (Qa (tb s) (m+1)) (d+20) [.expr (.call 6 [.var 0,.lst [.var 5],.op .FloorDiv (.var 2) (.c (.int 14 0)),el])]) k i [some (.ref q.w),some (.ref so),some (.int x 0),some ct,some lf,o] hs=some (.next,[some (.ref q.w),some (.ref so),some (.int x 0),some ct,some lf,o'],hs') /\
   Web hs' q c' (QI W nms (x / 14) z)/\Qs q c'=Qs q c/\Frm hs hs' (Qs q c)/\TK hs hs':=by
 intro vs
 induction vs with
 | nil =>
  intro nms i k hs c W o hd h hL nL dn l1 l2 lk;cases dn
  cases k with
  | zero=>simp at lk
  | succ k =>
   refine⟨hs,c,o,?_,h,rfl,Frm.refl,TK.refl⟩
   have e:us[i]?=none:=by rw [List.getElem?_eq_none_iff];exact List.drop_eq_nil_iff.mp hd
   simp [ZE,itm,QA,hL,e]
 | cons v vs ih =>
  intro nms i k hs c W o hd h hL nL dn l1 l2 lk
  cases dn with
  | cons dv dn =>
   rename_i a nms
   cases k with
   | zero=>simp at lk
   | succ k =>
    have e:us[i]?=some v:=by
     have:=List.getElem?_drop (xs:=us) (i:=i) (j:=0);rw [hd]at this;simpa using this.symm
    have hd':us.drop (i+1)=vs:=by rw [<-List.drop_drop,hd];rfl
    have lL:L<hs.length:=(List.getElem?_eq_some_iff.mp hL).1;have h1:=h.app (r:=[O.lst [v]])
    have np:hs.length∉Qs q c:=fun mm=>by
     rw [<-Yg q c W]at mm;obtain⟨p,mp,ep⟩:=List.mem_map.mp mm;have:=h.cs.lt mp;omega
    obtain⟨hs1,c1,g1,w1,m1,q1,q2,f1,t1⟩:=YB (s:=s) (m:=m) (pa:=hs.length) (x:=x / 14) (z:=z) (nms:=[a]) h1 at0 np (.cons (dv.mono TK.app) .nil) (by simp at l1;omega) (by simp at l2;omega)
    have t2:TK hs hs1:=TK.app.trans t1;have f2:Frm hs hs1 (Qs q c):=Frm.app.trans f1
    obtain⟨hs',c',o',g2,w2,m2,f3,t3⟩:=ih (nms:=nms) (i:=i+1) (k:=k) (hs:=hs1) (c:=c1) (o:=some v) hd' w1 (f2 _ _ hL nL) (by rw [m1];exact nL) (Qc (fun _ _=>DN.mono t2) dn) (by simp at l1;omega) (by simp at l2;omega) (by simp at lk;omega)
    refine⟨hs',c',o',?_,w2,m2.trans m1,f2.trans (m1▸f3),t2.trans t3⟩;have el':=hel (some v) (hs++[O.lst [v]]);simp only [ZE,itm,QA,hL,e,Option.map,tgt]
    have b:exs (tb s) (Qa (tb s) (m+1)) (d+20) [.expr (.call 6 [.var 0,.lst [.var 5],.op .FloorDiv (.var 2) (.c (.int 14 0)),el])] [some (.ref q.w),some (.ref so),some (.int x 0),some ct,some lf,some v] hs=some (.next,[some (.ref q.w),some (.ref so),some (.int x 0),some ct,some lf,some v],hs1):=by
     generalize hcf:Qa (tb s) (m+1)=cf at g1 el' ⊢;generalize tb s=T at el' ⊢;simp [QL,Zo,QY,evs,Qi,Zs,Yi,y_c,opU,Qps,el',g1,Q3,Qo]
    simp only [List.set_cons_succ,List.set_cons_zero];rw [b];exact g2
theorem Qcg{α:Type}{xs:List α}{n:Nat}(h:n<=xs.length):Zi xs (some (n:Int)) none=xs.drop n:=by
 have e1:Zm xs.length 0 (some (n:Int))=n:=by simp only [Zm];repeat (first | omega | split)
 have e2:Zm xs.length xs.length none=xs.length:=rfl;unfold Zi
 rw [e1,e2,List.take_of_length_le (by simp)]
theorem QlD{α:Type}{xs:List α}{n:Nat}(h:n<=xs.length):Zi xs none (some (n:Int))=xs.take n:=by
 have e1:Zm xs.length xs.length (some (n:Int))=n:=by simp only [Zm];repeat (first | omega | split)
 have e2:Zm xs.length 0 none=0:=rfl;unfold Zi;rw [e1,e2,List.drop_zero,Nat.sub_zero]
theorem Qj5{T:Tbl}{p:Nat}{hs:Hs}{xs:List U}{lo hi:Option Int}(h:hs[p]?=some (.lst xs)):slU T (.ref p) lo hi hs=some (.ref hs.length,hs++[.lst (Zi xs lo hi)]):=by simp only [slU,h]
theorem QpG{s:List U}{m:Nat}{a b c:U}{hs:Hs}:Qa (tb s) (m+2) 10 [a,b,c] hs=fin (exs (tb s) (Qa (tb s) (m+1)) dd b10 [some a,some b,some c,none,none,none] hs):=rfl
theorem dv2{x:Int}:Qcf (.int x 0) (.int 2 0)=some (.int (x / 2) 0):=by
 have h:(decide ((0:Int) < 2)&&decide ((2:Int) < 1606938044258990275541962092341162602522202993782792835301376))=true:=by decide
 simp only [Qcf];rw [if_pos h]
theorem dv7{x:Int}:Qcf (.int x 0) (.int 7 0)=some (.int (x / 7) 0):=by
 have h:(decide ((0:Int) < 7)&&decide ((7:Int) < 1606938044258990275541962092341162602522202993782792835301376))=true:=by decide
 simp only [Qcf];rw [if_pos h]
noncomputable def Yp(x:Int):Int:=1-2*(x / 7 % 2)
noncomputable def ZM(W:Ws)(nms:List Nm)(x:Int):Ws:=QI (QI W (nms.drop (nms.length / 2)) (x / 14) (0-Yp x)) (nms.take (nms.length / 2)) (x / 14) (Yp x)
theorem Yw{α β:Type}{P:α->β->Prop}:∀(n:Nat) {l:List α} {r:List β},PySem.Paired P l r->PySem.Paired P (l.drop n) (r.drop n)
 | 0,_,_,h=>h
 | n+1,_,_,.nil=>.nil
 | n+1,_,_,.cons _ t=>Yw n t
theorem ZU{α β:Type}{P:α->β->Prop}:∀(n:Nat) {l:List α} {r:List β},PySem.Paired P l r->PySem.Paired P (l.take n) (r.take n)
 | 0,_,_,_=>.nil
 | n+1,_,_,.nil=>.nil
 | n+1,_,_,.cons h t=>.cons h (ZU n t)
theorem Qes{x z:Int}:∀{nms:List Nm} {W:Ws},(QI W nms x z).given.length=W.given.length+nms.length/\(QI W nms x z).new.length=W.new.length+nms.length
 | [],W=>⟨rfl,rfl⟩
 | a::r,W=>by
  have h:=Qes (x:=x) (z:=z) (nms:=r) (W:=Q8 W [a] x z);have e:QI W (a::r) x z=QI (Q8 W [a] x z) r x z:=rfl;rw [e,h.1,h.2];simp [Q8];omega
theorem Qc4{s:List U}{hs:Hs}{q:Pl}{c:Ct}{W:Ws}{so m:Nat}{us:List U}{nms:List Nm}{x:Int}(h:Web hs q c W)(hp:hs[so]?=some (.lst us))(np:so∉Qs q c)(dp:PySem.Paired (DN hs) us nms)(l1:c.gs.length+us.length<1000000)(l2:c.ns.length+us.length<1000000):
  ∃hs' c',Qa (tb s) (m+2) 10 [.ref q.w,.ref so,.int x 0] hs=some (.non,hs')/\Web hs' q c' (ZM W nms x)/\Qs q c'=Qs q c/\Frm hs hs' (Qs q c)/\TK hs hs':=by
 have eu:=Qg dp
 have ec:((us.length:Int) / 2)=((us.length / 2:Nat):Int):=by omega
 have lc:us.length / 2<=us.length:=by omega
 have fresh:∀{hs:Hs} {c:Ct} {W:Ws},Web hs q c W->hs.length∉Qs q c:=fun {hs c W} h mm=>by
  rw [<-Yg q c W]at mm;obtain⟨p,mp,ep⟩:=List.mem_map.mp mm;have:=h.cs.lt mp;omega
 have h1:=h.app (r:=[O.lst (us.drop (us.length / 2))])
 obtain⟨hs1,c1,o1,g1,w1,m1,f1,t1⟩:=Ji (s:=s) (m:=m) (d:=76) (q:=q) (L:=hs.length) (so:=so) (us:=us.drop (us.length / 2)) (el:=.op .Sub (.c (.int 0 0)) (.var 4)) (x:=x) (z:=0-Yp x) (ct:=.int ((us.length / 2:Nat):Int) 0) (lf:=.int (Yp x) 0)
  (fun o hs=>by simp [Yi,y_c,Qi,Qo,opU,QhI,gz]) (i:=0) (k:=(us.drop (us.length / 2)).length+1) (o:=none) rfl h1 at0 (fresh h) (Yw (us.length / 2) (Qc (fun _ _=>DN.mono TK.app) dp)) (by simp;omega) (by simp;omega) (by simp)
 have hs1o:hs1[so]?=some (.lst us):=f1 _ _ (Qj hp) np;have t2:TK hs hs1:=TK.app.trans t1;have b1:=Qg w1.rs.gs;have b2:=Qg w1.rs.ns;have b3:=Qg h.rs.gs;have b4:=Qg h.rs.ns;rw [(Qes (x:=x / 14) (z:=0-Yp x)).1]at b1;rw [(Qes (x:=x / 14) (z:=0-Yp x)).2]at b2;simp only [List.length_drop]at b1 b2
 obtain⟨hs2,c2,o2,g2,w2,m2,f2,t3⟩:=Ji (s:=s) (m:=m) (d:=75) (q:=q) (L:=hs1.length) (so:=so) (us:=us.take (us.length / 2)) (el:=.var 4) (x:=x) (z:=Yp x) (ct:=.int ((us.length / 2:Nat):Int) 0) (lf:=.int (Yp x) 0)
  (fun o hs=>by simp [Qi]) (i:=0) (k:=(us.take (us.length / 2)).length+1) (o:=o1) rfl (w1.app (r:=[O.lst (us.take (us.length / 2))])) at0 (fresh w1) (ZU (us.length / 2) (Qc (fun _ _=>DN.mono (t2.trans TK.app)) dp)) (by simp;omega) (by simp;omega) (by simp)
 refine⟨hs2,c2,?_,?_,m2.trans m1,Frm.app.trans (f1.trans (m1▸Frm.app.trans f2)),t2.trans (TK.app.trans t3)⟩
 ·rw [QpG];simp only [Nat.reduceAdd]at g1 g2
  have m2':=md (x:=x / 7) (j:=2) (by decide)
  generalize Qa (tb s) (m+1)=cf at g1 g2 ⊢;generalize tb s=T at g1 g2 ⊢
  have k1:wkS T (.ref hs.length) (hs++[O.lst (us.drop (us.length / 2))])=some (.seqL (.ref hs.length)):=by simp [wkS,QA]
  have k2:wkS T (.ref hs1.length) (hs1++[O.lst (us.take (us.length / 2))])=some (.seqL (.ref hs1.length)):=by simp [wkS,QA]
  have u1:QZ T (.seqL (.ref hs.length)) (hs++[O.lst (us.drop (us.length / 2))])=(us.drop (us.length / 2)).length+1:=by simp [QZ,QA]
  have u2:QZ T (.seqL (.ref hs1.length)) (hs1++[O.lst (us.take (us.length / 2))])=(us.take (us.length / 2)).length+1:=by simp [QZ,QA]
  have e1:QhI (.int 1 0) (.int (2*(x / 7 % 2)) 0)=some (.int (Yp x) 0):=by simp [QhI,gz,Yp]
  simp only [b10,dd,QL,Yh,Qo,Yy,Yi,y_c,Qi,evs,evO,opU,Zb hp,dv2,ec,dv7,m2',QoC,e1,Qbs,Ze,Qjv,Qj5 hp,Qcg lc,k1,u1,List.getElem?_cons_zero,List.getElem?_cons_succ,List.set_cons_zero,List.set_cons_succ,Option.map];rw [g1];simp only [QL,Qo,Qbs,Ze,Qjv,Qi,evO,Qj5 hs1o,QlD lc,k2,u2,List.getElem?_cons_zero,List.getElem?_cons_succ,Option.map];rw [g2];simp only [Q3,fin]
 ·unfold ZM;rw [<-eu];exact w2
noncomputable def nmK(a:Nm):List U:=[.int a.1 0,.int a.2 0]
noncomputable abbrev Gk:=List (List U×U)
noncomputable def YS(gk:Gk)(a:Nm):Gk:=ZJ gk (nmK a) (.bl true)
theorem Qca(gk:Gk)(a:Nm):(YS gk a).length<=gk.length+1:=by
 unfold YS ZJ;split<;>simp
theorem Qav:∀(nms:List Nm) (gk:Gk),(nms.foldl YS gk).length<=gk.length+nms.length
 | [],gk=>by simp
 | a::r,gk=>by
  have:=Qav r (YS gk a);have:=Qca gk a;simp only [List.foldl_cons,List.length_cons];omega
theorem QcL{hs:Hs}{u:U}{a:Nm}(h:DN hs u a):tkU u hs=some (nmK a):=by
 obtain⟨i,rfl,e⟩:=h;simp only [tkU,e];rfl
theorem Zh{hs r:Hs}{u:U}{a:Nm}(h:DN hs u a):DN (hs++r) u a:=h.mono TK.app
theorem Qm1{H:Hs}{gk:Gk}{u v:U}{a:Nm}(h:DN H u a)(l:gk.length<1000000):QaX (.ref H.length) u v (H++[O.dct gk])=some (H++[O.dct (ZJ gk (nmK a) v)]):=by
 have e:(H++[O.dct gk])[H.length]?=some (.dct gk):=at0;simp only [QaX,e,Qbh,l,if_true,QcL (Zh h),Option.map_some,Qom]
theorem Qd7{T:Tbl}{cf:Cf}{d:Nat}{H:Hs}{j:Nat}{us:List U}{w x kp:U}(hj:H[j]?=some (.lst us)):∀{vs:List U} {nms:List Nm} {i k:Nat} {gk:Gk} {o:Option U},us.drop i=vs->PySem.Paired (DN H) vs nms->gk.length+vs.length<1000000->vs.length<k ->
  ∃o',ZE T (.seqL (.ref j)) (.name 4) (exs T cf (d+10) [.put (.var 2) (.var 4) (.c (.bl true))]) k i [some w,some x,some (.ref H.length),some kp,o,none,none,none] (H++[O.dct gk])=some (.next,[some w,some x,some (.ref H.length),some kp,o',none,none,none],H++[O.dct (nms.foldl YS gk)]):=by
 intro vs;have hL:∀gk,(H++[O.dct gk])[j]?=some (.lst us):=fun gk=>Qj hj
 induction vs with
 | nil =>
  intro nms i k gk o hd dn l lk;cases dn
  cases k with
  | zero=>simp at lk
  | succ k =>
   refine⟨o,?_⟩
   have e:us[i]?=none:=by rw [List.getElem?_eq_none_iff];exact List.drop_eq_nil_iff.mp hd
   simp [ZE,itm,QA,hL,e]
 | cons v vs ih =>
  intro nms i k gk o hd dn l lk
  cases dn with
  | cons dv dn =>
   rename_i a nms
   cases k with
   | zero=>simp at lk
   | succ k =>
    have e:us[i]?=some v:=by
     have:=List.getElem?_drop (xs:=us) (i:=i) (j:=0);rw [hd]at this;simpa using this.symm
    have hd':us.drop (i+1)=vs:=by rw [<-List.drop_drop,hd];rfl
    have lg:=Qca gk a
    obtain⟨o',g⟩:=ih (nms:=nms) (i:=i+1) (k:=k) (gk:=YS gk a) (o:=some v) hd' dn (by simp at l;omega) (by simp at lk;omega)
    refine⟨o',?_⟩
    have p:=Qm1 (v:=.bl true) dv (gk:=gk) (by omega)
    simp only [ZE,itm,QA,hL,e,Option.map,tgt]
    have b:exs T cf (d+10) [.put (.var 2) (.var 4) (.c (.bl true))] [some w,some x,some (.ref H.length),some kp,some v,none,none,none] (H++[O.dct gk])=some (.next,[some w,some x,some (.ref H.length),some kp,some v,none,none,none],H++[O.dct (YS gk a)]):=by
     simp [QL,Qcn,Qi,y_c,Qo,p,Q3,YS]
    simp only [List.set_cons_succ,List.set_cons_zero];rw [b];exact g
noncomputable def QiY(kept:List (U×List Nm))(gk:Gk):Gk:=kept.foldl (fun g p=>p.2.foldl YS g) gk
noncomputable def QaL(kept:List (U×List Nm)):Nat:=(kept.map fun p=>p.2.length).sum
noncomputable def bdG:List S:=[(.loop (.name 4) (.seq (.ix (.ix (.var 0) (.c (.str [107,101,112,116]))) (.var 3))) [(.put (.var 2) (.var 4) (.c (.bl true)))])]
theorem Qcc{α:Type}{k:U}{v:α}:∀{as bs:List (U×α)},((as++(k,v)::bs).map (·.1)).Nodup->(as++(k,v)::bs).find? (fun p=>decide (p.1=k))=some (k,v)
 | [],bs,_=>by simp
 | a::as,bs,h=>by
  have h1:=List.nodup_cons.mp h
  have ne:a.1≠k:=fun z=>h1.1 (by simp [z])
  rw [List.cons_append,List.find?_cons_of_neg (by simp [ne])]
  exact Qcc h1.2
theorem Qd6{T:Tbl}{cf:Cf}{d:Nat}{H:Hs}{q:Pl}{x:U}{kd:List (U×U)}(hw:H[q.w]?=some (.dic (QK q)))(hk:H[q.k]?=some (.fzd kd))(nd:(kd.map (·.1)).Nodup):
  ∀{kc:List (U×Nat×List U)} {kp:List (U×List Nm)} {as:List (U×U)} {gk:Gk} {o3 o4:Option U},kd=as++kc.map (fun x=>(x.1,.ref x.2.1))->(∀y∈kc,H[y.2.1]?=some (.lst y.2.2))->(∀y∈kc,Y6 y.1=true)->PySem.Paired (fun(x:U×Nat×List U) (y:U×List Nm)=>x.1=y.1/\PySem.Paired (DN H) x.2.2 y.2) kc kp->gk.length+QaL kp<1000000 ->
  ∃o3' o4',Qew 3 (exs T cf (d+20) bdG) (kc.map (·.1)) [some (.ref q.w),some x,some (.ref H.length),o3,o4,none,none,none] (H++[O.dct gk])=some (.next,[some (.ref q.w),some x,some (.ref H.length),o3',o4',none,none,none],H++[O.dct (QiY kp gk)]):=by
 intro kc
 induction kc with
 | nil =>
  intro kp as gk o3 o4 ek hc hkey pr l;cases pr;exact⟨o3,o4,rfl⟩
 | cons y kc ih =>
  intro kp as gk o3 o4 ek hc hkey pr l
  cases pr with
  | cons r pr =>
   rename_i z kp;have hj:=hc y List.mem_cons_self;have ll:=Qav z.2 gk
   have la:QaL (z::kp)=z.2.length+QaL kp:=by simp [QaL]
   have e2:=Qg r.2
   obtain⟨o4',g⟩:=Qd7 (T:=T) (cf:=cf) (d:=d+8) (w:=.ref q.w) (x:=x) (kp:=y.1) hj (vs:=y.2.2) (i:=0) (k:=y.2.2.length+1) (gk:=gk) (o:=o4) rfl r.2 (by omega) (by omega)
   obtain⟨o3'',o4'',g2⟩:=ih (as:=as++[(y.1,.ref y.2.1)]) (gk:=z.2.foldl YS gk) (o3:=some y.1) (o4:=o4') (by rw [ek];simp) (fun a m=>hc a (List.mem_cons_of_mem _ m)) (fun a m=>hkey a (List.mem_cons_of_mem _ m)) pr (by omega)
   refine⟨o3'',o4'',?_⟩
   have lk:QH T (.ref q.k) y.1 (H++[O.dct gk])=some (.ref y.2.1):=by
    have f:QF kd y.1=some (.ref y.2.1):=by
     have:=Qcc (k:=y.1) (v:=U.ref y.2.1) (as:=as) (bs:=kc.map fun x=>(x.1,.ref x.2.1)) (by rw [<-show kd=as++(y.1,U.ref y.2.1)::kc.map (fun x=>(x.1,.ref x.2.1)) by rw [ek];rfl];exact nd)
     unfold QF;rw [ek];simp only [List.map_cons];rw [this];rfl
    simp only [QH,Qj hk,ZL,hkey y List.mem_cons_self,if_true,f];rfl
   have k1:wkS T (.ref y.2.1) (H++[O.dct gk])=some (.seqL (.ref y.2.1)):=by simp [wkS,QA,Qj hj]
   have u1:QZ T (.seqL (.ref y.2.1)) (H++[O.dct gk])=y.2.2.length+1:=by simp [QZ,QA,Qj hj]
   have b:exs T cf (d+20) bdG [some (.ref q.w),some x,some (.ref H.length),some y.1,o4,none,none,none] (H++[O.dct gk])=some (.next,[some (.ref q.w),some x,some (.ref H.length),some y.1,o4',none,none,none],H++[O.dct (z.2.foldl YS gk)]):=by
    simp only [bdG,QL,Qbs,Ze,Zq,Qi,y_c,Qo,s_K (Qj hw),Option.map,List.getElem?_cons_zero,List.getElem?_cons_succ,lk,k1,u1];rw [g];simp only [Q3]
   simp only [List.map_cons,Qew,List.set_cons_succ,List.set_cons_zero];rw [b];exact g2
noncomputable def QN(gk:Gk)(r:Nat):Nat->Nat->List Nm
 | _,0=>[]
 | i,m+1=>if(QF gk [.int r 0,.int i 0]).isSome=true then QN gk r (i+1) m else((r:Int),(i:Int))::QN gk r (i+1) m
theorem YG(gk:Gk)(r:Nat):∀(m i:Nat),(QN gk r i m).length<=m
 | 0,i=>by simp [QN]
 | m+1,i=>by
  have:=YG gk r m (i+1);unfold QN;split<;>simp<;>omega
noncomputable def Qjw:E:=.cmp .NotIn (.tup [(.var 6),(.var 8)]) (.var 2)
theorem Jy{α β:Type}{P:α->β->Prop}:∀{l l':List α} {r r':List β},PySem.Paired P l r->PySem.Paired P l' r'->PySem.Paired P (l++l') (r++r')
 | _,_,_,_,.nil,h=>h
 | _,_,_,_,.cons h t,h'=>.cons h (Jy t h')
theorem Qgv{T:Tbl}{cf:Cf}{d gi:Nat}{gk:Gk}{r N:Nat}{w x sm:U}{o3 o4 o7:Option U}:∀(m i:Nat) (acc:List U) (nms:List Nm) (hs:Hs),i+m=N->acc.length+m<=1000000->PySem.Paired (DN hs) acc nms->hs[gi]?=some (.dct gk) ->
  ∃z us,QQ T (ev T cf (d+10)) (Z4 (evT T cf (d+10)) (some Qjw)) (.rng 0 N) false (.tup [(.var 6),(.var 8)]) [some w,some x,some (.ref gi),o3,o4,some sm,some (.int r 0),o7] (m+1) i acc hs=some (us,hs++z)/\PySem.Paired (DN (hs++z)) us (nms++QN gk r i m):=by
 intro m
 induction m with
 | zero =>
  intro i acc nms hs e l p hg
  refine⟨[],acc,?_,by simpa [QN]using p⟩
  have:¬i<N:=by omega
  simp [QQ,itm,this]
 | succ m ih =>
  intro i acc nms hs e l p hg
  have lt:i<N:=by omega
  have la:acc.length<1000000:=by omega
  have hg1:(hs++[O.tup [.int r 0,.int i 0]])[gi]?=some (.dct gk):=Qj hg
  have cm:Zn T .NotIn (.ref hs.length) (.ref gi) (hs++[O.tup [.int r 0,.int i 0]])=some (!(QF gk [.int r 0,.int i 0]).isSome):=by
   have e1:ZN T (.ref gi) (hs++[O.tup [.int r 0,.int i 0]])=none:=by simp only [ZN,hg1]
   have e2:tkU (.ref hs.length) (hs++[O.tup [.int r 0,.int i 0]])=some [.int r 0,.int i 0]:=by simp only [tkU,at0];rfl
   simp only [Zn,e1,inD,hg1,ZL,e2,Option.map]
  cases hc:(QF gk [.int r 0,.int i 0]).isSome with
  | true =>
   obtain⟨z,us,g1,g2⟩:=ih (i+1) acc nms (hs++[O.tup [.int r 0,.int i 0]]) (by omega) (by omega) (Qc (fun _ _=>Zh) p) hg1
   refine⟨O.tup [.int r 0,.int i 0]::z,us,?_,?_⟩
   ·rw [QQ];rw [hc]at cm;simp only [itm,lt,if_true,tgt,tgN,QcY,la,Z4,Qjw,QP,Q6,ZP,Qi,evs,Qo,List.length_cons,List.length_nil,Nat.zero_add,Nat.reduceAdd,List.cons_append,List.nil_append,List.set_cons_succ,List.set_cons_zero,List.getElem?_cons_succ,List.getElem?_cons_zero,Int.zero_add,Bool.false_eq_true,if_false];rw [cm];simp only [Qo,Option.map,Zj,Bool.not_true,Bool.false_eq_true,if_false];simpa [Qjw]using g1
   ·rw [QN,if_pos hc];simpa using g2
  | false =>
   obtain⟨z,us,g1,g2⟩:=ih (i+1) (acc++[.ref (hs.length+1)]) (nms++[((r:Int),(i:Int))]) (hs++[O.tup [.int r 0,.int i 0],O.tup [.int r 0,.int i 0]]) (by omega) (by simp;omega) (QC ⟨hs.length+1,rfl,by rw [List.getElem?_append_right (by omega)];simp⟩ (Qc (fun _ _=>Zh) p)) (Qj hg)
   refine⟨O.tup [.int r 0,.int i 0]::O.tup [.int r 0,.int i 0]::z,us,?_,?_⟩
   ·rw [QQ];rw [hc]at cm;simp only [itm,lt,if_true,tgt,tgN,QcY,la,Z4,Qjw,QP,Q6,ZP,Qi,evs,Qo,List.length_cons,List.length_nil,Nat.zero_add,Nat.reduceAdd,List.cons_append,List.nil_append,List.set_cons_succ,List.set_cons_zero,List.getElem?_cons_succ,List.getElem?_cons_zero,Int.zero_add,Bool.false_eq_true,if_false];rw [cm];simp only [Qo,Option.map,Zj,Bool.not_false,if_true,ZP,evs,Qi,List.getElem?_cons_succ,List.getElem?_cons_zero,List.length_append,List.length_cons,List.length_nil,Nat.zero_add,List.append_assoc,List.cons_append,List.nil_append];simpa [Qjw]using g1
   ·rw [QN,if_neg (by rw [hc];decide)]
    simpa using g2
noncomputable def Zw(gk:Gk):Nat->List (List Lp)->List Nm
 | _,[]=>[]
 | r,row::rest=>QN gk r 0 row.length++Zw gk (r+1) rest
noncomputable def bdR:List S:=[(.set 5 (.op .Add (.var 5) (.comp (.rng (.bi .len [(.ix (.ix (.var 0) (.c (.str [114,111,119,115]))) (.var 6))])) false (some (.cmp .NotIn (.tup [(.var 6),(.var 8)]) (.var 2))) (.tup [(.var 6),(.var 8)]))))]
theorem Qo3{n:Nat}(h:n<=1000000):Qp ((n:Int)*4)=true:=by
 simp only [Qp,Bool.and_eq_true,decide_eq_true_eq];omega
theorem Qcj{α:Type}{xs:List α}{i:Nat}{x:α}(h:xs[i]?=some x):atU xs (i:Int)=some x:=by
 have l:=(List.getElem?_eq_some_iff.mp h).1
 have e:ixU xs.length (i:Int)=some i:=by
  unfold ixU
  rw [if_pos (by omega),if_pos (by omega)]
  simp
 simp only [atU,e,h]
theorem Yk{TT:Tbl}{cf:Cf}{d i:Nat}{a:E}{ρ:Rho}{h h1:Hs}{u:U}(e:ev TT cf d a ρ h=some (u,h1)):ex TT cf (d+1) (.set i a) ρ h=some (.next,ρ.set i (some u),h1):=by
 rw [Yh,e,Qo]
theorem Jc{TT:Tbl}{cf:Cf}{d:Nat}{src:Src}{t:Option E}{el:E}{ρ:Rho}{h h1 h2:Hs}{w:Wk}{us:List U}(es:Ze TT (ev TT cf d) ρ src h=some (w,h1))(ec:QQ TT (ev TT cf d) (Z4 (evT TT cf d) t) w false el ρ (QZ TT w h1) 0 [] h1=some (us,h2)):ev TT cf (d+1) (.comp src false t el) ρ h=some (.ref h2.length,h2++[.lst us]):=by
 rw [QgG,es,Qo,ec,Qo]
theorem Ql4{TT:Tbl}{cf:Cf}{d:Nat}{o:Operator}{a b:E}{ρ:Rho}{h h1 h2:Hs}{u w:U}{r:Option (U×Hs)}(ea:ev TT cf d a ρ h=some (u,h1))(eb:ev TT cf d b ρ h1=some (w,h2))(eo:opU o u w h2=r):ev TT cf (d+1) (.op o a b) ρ h=r:=by
 rw [Yi,ea,Qo,eb,Qo,eo]
theorem Yl{TT:Tbl}{cf:Cf}{d i:Nat}{ρ:Rho}{h:Hs}{u:U}(e:ρ[i]?=some (some u)):ev TT cf (d+1) (.var i) ρ h=some (u,h):=by
 rw [Qi,e]
theorem Qr{TT:Tbl}{cf:Cf}{d:Nat}{st:S}{ρ ρ':Rho}{h h1:Hs}(e:ex TT cf (d+1) st ρ h=some (.next,ρ',h1)):exs TT cf (d+2) [st] ρ h=some (.next,ρ',h1):=by
 rw [QL,e];exact Q3
theorem Qkc{T:Tbl}{f:Ev}{ρ:Rho}{a:E}{i:Int}{h h1:Hs}(e:f a ρ h=some (.int i 0,h1)):Ze T f ρ (.rng a) h=if Qp (i*4)=true then some (.rng 0 i.toNat,h1)else none:=by
 simp only [Ze,e,Qo]
theorem YC{TT:Tbl}{cf:Cf}{d n:Nat}{a:E}{ρ:Rho}{h h1:Hs}(e:ev TT cf d a ρ h=some (.int (n:Int) 0,h1))(l:n<=1000000):Ze TT (ev TT cf d) ρ (.rng a) h=some (.rng 0 n,h1):=by
 rw [Qkc e,if_pos (Qo3 l),Int.toNat_natCast]
noncomputable def szR(rows:List (List Lp)):Nat:=(rows.map List.length).sum
theorem Qd4{T:Tbl}{cf:Cf}{d gi:Nat}{gk:Gk}{q:Pl}{rr:List U}{x:U}{o3 o4:Option U}:
  ∀{rv:List U} {rows:List (List Lp)} {i k:Nat} {hs:Hs} {so:Nat} {us:List U} {nms:List Nm} {o6:Option U} {M:List Nat},rr.drop i=rv->hs[q.w]?=some (.dic (QK q))->hs[q.r]?=some (.lst rr)->hs[gi]?=some (.dct gk)->PySem.Paired (DR hs M) rv rows->hs[so]?=some (.lst us)->PySem.Paired (DN hs) us nms->us.length+szR rows<=1000000->rv.length<k ->
  ∃z so' us' o6',ZE T (.rng 0 rr.length) (.name 6) (exs T cf (d+20) bdR) k i [some (.ref q.w),some x,some (.ref gi),o3,o4,some (.ref so),o6,none] hs=some (.next,[some (.ref q.w),some x,some (.ref gi),o3,o4,some (.ref so'),o6',none],hs++z)/\(hs++z)[so']?=some (.lst us')/\PySem.Paired (DN (hs++z)) us' (nms++Zw gk i rows)/\(so'=so\/hs.length<=so'):=by
 intro rv
 induction rv with
 | nil =>
  intro rows i k hs so us nms o6 M hd hw hr hg pr hso pn l lk;cases pr
  cases k with
  | zero=>simp at lk
  | succ k =>
   refine⟨[],so,us,o6,?_,by simpa using hso,by simpa [Zw]using pn,.inl rfl⟩
   have e:¬i<rr.length:=by have:=List.drop_eq_nil_iff.mp hd;omega
   simp [ZE,itm,e]
 | cons v rv ih =>
  intro rows i k hs so us nms o6 M hd hw hr hg pr hso pn l lk
  cases pr with
  | cons dv pr =>
   rename_i row rows
   cases k with
   | zero=>simp at lk
   | succ k =>
    have e:rr[i]?=some v:=by
     have:=List.getElem?_drop (xs:=rr) (i:=i) (j:=0);rw [hd]at this;simpa using this.symm
    have hd':rr.drop (i+1)=rv:=by rw [<-List.drop_drop,hd];rfl
    have lt:=(List.getElem?_eq_some_iff.mp e).1;obtain⟨p,vs,rfl,hp,np,pl⟩:=dv;have el:=Qg pl
    have es:szR (row::rows)=row.length+szR rows:=by simp [szR]
    have eu:=Qg pn
    obtain⟨z,ns,g1,g2⟩:=Qgv (T:=T) (cf:=cf) (d:=d+6) (gi:=gi) (gk:=gk) (r:=i) (N:=vs.length) (w:=.ref q.w) (x:=x) (sm:=.ref so) (o3:=o3) (o4:=o4) (o7:=none) vs.length 0 [] [] hs (by omega) (by simp;omega) .nil hg
    have ln:=YG gk i vs.length 0;have en:=Qg g2;simp only [List.nil_append]at g2 en;have c1:(hs++z++[O.lst ns])[so]?=some (.lst us):=Qj (Qj hso);have c2:(hs++z++[O.lst ns])[(hs++z).length]?=some (.lst ns):=at0
    have ad:Qc0 (.ref so) (.ref (hs++z).length) (hs++z++[O.lst ns])=some (.ref (hs++z++[O.lst ns]).length,(hs++z++[O.lst ns])++[.lst (us++ns)]):=by
     have:us.length+ns.length<=1000000:=by omega
     simp only [Qc0,c1,c2,Qme,this,if_true]
    have hx:∀{j:Nat} {o:O},hs[j]?=some o->(hs++(z++[O.lst ns,O.lst (us++ns)]))[j]?=some o:=fun h=>Qj h
    have as:(hs++z++[O.lst ns])++[O.lst (us++ns)]=hs++(z++[O.lst ns,O.lst (us++ns)]):=by simp
    have t:TK hs (hs++(z++[O.lst ns,O.lst (us++ns)])):=TK.app
    have t2:TK (hs++z) (hs++(z++[O.lst ns,O.lst (us++ns)])):=by rw [<-List.append_assoc];exact TK.app
    obtain⟨z2,so',us',o6',k1,k2,k3,k4⟩:=ih (i:=i+1) (k:=k) (hs:=hs++(z++[O.lst ns,O.lst (us++ns)])) (so:=(hs++z++[O.lst ns]).length) (us:=us++ns) (nms:=nms++QN gk i 0 row.length) (o6:=some (.int i 0)) (M:=M) hd' (hx hw) (hx hr) (hx hg) (Qc (fun _ _ h=>h.mono t fun j ws e n=>⟨Qj e,n⟩) pr) (by rw [<-as];exact at0) (Jy (Qc (fun _ _=>DN.mono t) pn) (by rw [<-el];exact Qc (fun _ _=>DN.mono t2) g2)) (by simp;omega) (by simp at lk;omega)
    refine⟨z++[O.lst ns,O.lst (us++ns)]++z2,so',us',o6',?_,by rw [<-List.append_assoc];exact k2,?_,?_⟩
    ·have b:exs T cf (d+20) bdR [some (.ref q.w),some x,some (.ref gi),o3,o4,some (.ref so),some (.int i 0),none] hs=some (.next,[some (.ref q.w),some x,some (.ref gi),o3,o4,some (.ref (hs++z++[O.lst ns]).length),some (.int i 0),none],hs++(z++[O.lst ns,O.lst (us++ns)])):=by
      have sr:QH T (.ref q.r) (.int (i:Int) 0) hs=some (.ref p):=by simp only [QH,hr,Qcj e]
      have en2:ev T cf (d+16) (.bi .len [(.ix (.ix (.var 0) (.c (.str [114,111,119,115]))) (.var 6))]) [some (.ref q.w),some x,some (.ref gi),o3,o4,some (.ref so),some (.int i 0),none] hs=some (.int (vs.length:Int) 0,hs):=by
       simp only [Yy,evs,Zq,Qi,y_c,Qo,s_R hw,Option.map,List.getElem?_cons_zero,List.getElem?_cons_succ,sr,Zb hp]
      have lv:vs.length<=1000000:=by omega
      have cc:=Jc (t:=some Qjw) (el:=.tup [(.var 6),(.var 8)]) (YC en2 lv) g1;have oo:=Ql4 (o:=.Add) (Yl (TT:=T) (cf:=cf) (d:=d+16) (i:=5) (ρ:=[some (.ref q.w),some x,some (.ref gi),o3,o4,some (.ref so),some (.int i 0),none]) (h:=hs) (u:=.ref so) rfl) cc (show opU .Add _ _ _=_ from ad);rw [as]at oo;exact Qr (Yk (i:=5) oo)
     simp only [ZE,itm,lt,if_true,tgt,Option.map,List.set_cons_succ,List.set_cons_zero,Int.zero_add];rw [b];simp only [];rw [show hs++(z++[O.lst ns,O.lst (us++ns)]++z2)=hs++(z++[O.lst ns,O.lst (us++ns)])++z2 from(List.append_assoc ..).symm];exact k1
    ·rw [<-List.append_assoc]
     have:nms++Zw gk i (row::rows)=nms++QN gk i 0 row.length++Zw gk (i+1) rows:=by simp [Zw]
     rw [this];exact k3
    ·rcases k4 with k4 | k4
     ·right;rw [k4];simp
     ·right;simp at k4;omega
theorem Qmr{hs:Hs}{q:Pl}{c:Ct}{W:Ws}{ps:List U}{nms:List Nm}{x z:Int}(h:Web hs q c W)(dp:PySem.Paired (DN hs) ps nms):
  ∃c',Web (Qhc q c.rr c.gs c.ns ps x z hs) q c' (Q8 W nms x z)/\Qs q c'=Qs q c/\c'.gs.length=c.gs.length+1/\c'.ns.length=c.ns.length+1/\Frm hs (Qhc q c.rr c.gs c.ns ps x z hs) (Qs q c)/\TK hs (Qhc q c.rr c.gs c.ns ps x z hs):=by
 have hg:=h.mem (p:=(q.g,.lst c.gs)) (by simp [cells])
 have er:=Qg h.rs.rr;have en:=Qg h.rs.ns;have ep:=Qg dp;have h1:=h.app (r:=[O.tup [U.int c.rr.length 0,U.int c.ns.length 0]])
 have h2:=h1.pushG (u:=.ref hs.length) (a:=((W.rows.length:Int),(W.new.length:Int))) ⟨hs.length,rfl,by rw [at0,er,en]⟩
 have h3:=h2.app (r:=[O.tup ps,O.tup [U.ref (hs.length+1),U.int (YE ps.length x) 0,U.int z 0]])
 have tk:TK hs (List.set (hs++[O.tup [U.int c.rr.length 0,U.int c.ns.length 0]]) q.g (O.lst (c.gs++[.ref hs.length]))++[O.tup ps,O.tup [U.ref (hs.length+1),U.int (YE ps.length x) 0,U.int z 0]]):=
  TK.app.trans ((TK.set (Qj hg) (by simp)).trans TK.app)
 have lx:(List.set (hs++[O.tup [U.int c.rr.length 0,U.int c.ns.length 0]]) q.g (O.lst (c.gs++[.ref hs.length]))).length=hs.length+1:=by simp
 have h4:=h3.pushN (u:=.ref (hs.length+2)) (a:=⟨nms,YE nms.length x,z⟩) ⟨hs.length+2,hs.length+1,ps,rfl,by
   rw [List.getElem?_append_right (by omega),lx,<-ep];simp,by
   rw [List.getElem?_append_right (by omega),lx];simp,Qc (fun _ _=>DN.mono tk) dp⟩
 have hn3:=h3.mem (p:=(q.n,.lst c.ns)) (by simp [cells])
 exact⟨_,h4,rfl,by simp,by simp,Frm.app.trans ((Frm.set (by simp [Qs])).trans (Frm.app.trans (Frm.set (by simp [Qs])))),tk.trans (TK.set hn3 (by simp))⟩
noncomputable def bdP:List S:=[(.expr (.bm .append (.ix (.var 0) (.c (.str [103,105,118,101,110]))) [(.tup [(.bi .len [(.ix (.var 0) (.c (.str [114,111,119,115])))]),(.bi .len [(.ix (.var 0) (.c (.str [110,101,119])))])])])),(.expr (.bm .append (.ix (.var 0) (.c (.str [110,101,119]))) [(.tup [(.tup [(.var 4)]),(.c (.int 1 0)),(.c (.int 0 0))])]))]
theorem QdI{T:Tbl}{cf:Cf}{d:Nat}{q:Pl}{hs:Hs}{rs gs ns:List U}{v:U}{ρ:Rho}(h0:ρ[0]?=some (some (.ref q.w)))(h4:ρ[4]?=some (some v))(hw:hs[q.w]?=some (.dic (QK q)))(hr:hs[q.r]?=some (.lst rs))(hg:hs[q.g]?=some (.lst gs))(hn:hs[q.n]?=some (.lst ns))
  (n1:q.w≠q.g) (n2:q.r≠q.g) (n3:q.n≠q.g) (l1:gs.length<1000000) (l2:ns.length<1000000):exs T cf (d+20) bdP ρ hs=some (.next,ρ,Qhc q rs gs ns [v] 0 0 hs):=by
 have hw1:∀u x,((hs++[u]).set q.g x)[q.w]?=some (.dic (QK q)):=fun u x=>by rw [List.getElem?_set_ne (Ne.symm n1)];exact Qj hw
 have hn1:∀u x,((hs++[u]).set q.g x)[q.n]?=some (.lst ns):=fun u x=>by rw [List.getElem?_set_ne (Ne.symm n3)];exact Qj hn
 have hg1:∀u,(hs++[u])[q.g]?=some (.lst gs):=fun u=>Qj hg;have hn3:∀u x (r:Hs),(((hs++[u]).set q.g x)++r)[q.n]?=some (.lst ns):=fun u x r=>Qj (hn1 u x);simp [bdP,QL,Q3,Zo,Qco,Zq,ZP,Qi,y_c,Yy,Qo,evs,h0,h4,s_R hw,s_G hw,s_N hw,s_N (hw1 _ _),Zb hr,Zb hn,Yo hg,Yo (hn1 _ _),Yr (hg1 _) l1,Yr (hn3 _ _ _) l2,Qhc,YE]
theorem Qd5{T:Tbl}{cf:Cf}{d:Nat}{q:Pl}{L:Nat}{us:List U}:
  ∀{vs:List U} {nms:List Nm} {i k:Nat} {hs:Hs} {c:Ct} {W:Ws} {ρ:Rho},us.drop i=vs->Web hs q c W->hs[L]?=some (.lst us)->L∉Qs q c->PySem.Paired (DN hs) vs nms->c.gs.length+vs.length<1000000->c.ns.length+vs.length<1000000->vs.length<k->ρ[0]?=some (some (.ref q.w))->4 < ρ.length ->
  ∃hs' c' ρ',ZE T (.seqL (.ref L)) (.name 4) (exs T cf (d+20) bdP) k i ρ hs=some (.next,ρ',hs')/\Web hs' q c' (QI W nms 0 0)/\Qs q c'=Qs q c/\Frm hs hs' (Qs q c)/\TK hs hs':=by
 intro vs
 induction vs with
 | nil =>
  intro nms i k hs c W ρ hd h hL nL dn l1 l2 lk h0 l4;cases dn
  cases k with
  | zero=>simp at lk
  | succ k =>
   refine⟨hs,c,ρ,?_,h,rfl,Frm.refl,TK.refl⟩
   have e:us[i]?=none:=by rw [List.getElem?_eq_none_iff];exact List.drop_eq_nil_iff.mp hd
   simp [ZE,itm,QA,hL,e]
 | cons v vs ih =>
  intro nms i k hs c W ρ hd h hL nL dn l1 l2 lk h0 l4
  cases dn with
  | cons dv dn =>
   rename_i a nms
   cases k with
   | zero=>simp at lk
   | succ k =>
    have e:us[i]?=some v:=by
     have:=List.getElem?_drop (xs:=us) (i:=i) (j:=0);rw [hd]at this;simpa using this.symm
    have hd':us.drop (i+1)=vs:=by rw [<-List.drop_drop,hd];rfl
    have hw:=h.mem (p:=(q.w,_)) (by simp [cells];exact .inl rfl)
    have hr:=h.mem (p:=(q.r,.lst c.rr)) (by simp [cells])
    have hg:=h.mem (p:=(q.g,.lst c.gs)) (by simp [cells])
    have hn:=h.mem (p:=(q.n,.lst c.ns)) (by simp [cells])
    have nd:=h.nd;simp only [Qs,List.cons_append,List.nodup_cons,List.mem_cons,not_or]at nd;obtain⟨c1,w1,m1,q1,q2,f1,t1⟩:=Qmr (x:=0) (z:=0) h (.cons dv .nil)
    have h0':(ρ.set 4 (some v))[0]?=some (some (.ref q.w)):=by rw [List.getElem?_set_ne (by decide)];exact h0
    have b:=QdI (T:=T) (cf:=cf) (d:=d) (v:=v) (ρ:=ρ.set 4 (some v)) h0' (by rw [List.getElem?_set_self l4]) hw hr hg hn nd.1.2.1 nd.2.1.1 (Ne.symm nd.2.2.1.1) (by simp at l1;omega) (by simp at l2;omega)
    obtain⟨hs',c',ρ',g2,w2,m2,f3,t3⟩:=ih (nms:=nms) (i:=i+1) (k:=k) (c:=c1) (ρ:=ρ.set 4 (some v)) hd' w1 (f1 _ _ hL nL) (by rw [m1];exact nL) (Qc (fun _ _=>DN.mono t1) dn) (by simp at l1;omega) (by simp at l2;omega) (by simp at lk;omega) h0' (by simpa using l4)
    refine⟨hs',c',ρ',?_,w2,m2.trans m1,f1.trans (m1▸f3),t1.trans t3⟩;simp only [ZE,itm,QA,hL,e,Option.map,tgt];rw [b];exact g2
noncomputable def sz(W:Ws):Nat:=szR W.rows+W.new.length+W.given.length+W.left.length+W.off.length+QaL W.kept+W.put.length+W.kept.length+W.rows.length
structure Ok(W:Ws):Prop where
 ip:IntsP W.put
 kn:(W.kept.map (·.1)).Nodup
 kk:∀p∈W.kept,Y6 p.1=true
theorem Qeh{hs:Hs}:∀{kc:List (U×Nat×List U)} {kp:List (U×List Nm)},PySem.Paired (fun(x:U×Nat×List U) (y:U×List Nm)=>x.1=y.1/\PySem.Paired (DN hs) x.2.2 y.2) kc kp->kc.map (·.1)=kp.map (·.1)
 | _,_,.nil=>rfl
 | _,_,.cons r t=>by rw [List.map_cons,List.map_cons,r.1,Qeh t]
theorem Qhp{T:Tbl}{cf:Cf}{d i n:Nat}{e:E}{body:List S}{ρ ρ':Rho}{hs h2:Hs}{kvs kvs2:List (U×U)}(he:ev T cf d e ρ hs=some (.ref n,hs))(hn:hs[n]?=some (.dic kvs))(hf:Qew i (exs T cf d body) (kvs.map (·.1)) ρ (hs.set n (.fzd kvs))=some (.next,ρ',h2))(h2n:h2[n]?=some (.fzd kvs2)):ex T cf (d+1) (.loopK i e body) ρ hs=some (.next,ρ',h2.set n (.dic kvs2)):=by
 have dc:Qbk (.ref n) hs hs=some (n,kvs):=by simp only [Qbk,hn]
 rw [ex,he,Qo,dc];simp only [];rw [hf];simp only [Qhw,h2n]
noncomputable def ZD(n:Nat):Int:=if(n:Int) > 1 then n else 1
noncomputable def pickL(W:Ws):List Nm:=Zw (QiY W.kept []) 0 W.rows
noncomputable def QcA(W:Ws)(x:Int):List Nm:=Zi (pickL W) (some (x / 4 % ZD (pickL W).length)) (some (x / 4 % ZD (pickL W).length+1+x % 4))
noncomputable def YK(W:Ws)(x:Int):Ws:=QI W (QcA W x) 0 0
theorem Qid{α β:Type}{P:α->β->Prop}{l:List α}{r:List β}{a b:Option Int}(h:PySem.Paired P l r):PySem.Paired P (Zi l a b) (Zi r a b):=by
 unfold Zi;rw [Qg h];exact ZU _ (Yw _ h)
theorem QiF(a b n:Nat)(h:a<=b):min b n-min a n<=b-a:=by
 rcases Nat.le_total b n with l | l
 ·rw [Nat.min_eq_left l,Nat.min_eq_left (Nat.le_trans h l)];exact Nat.le_refl _
 ·rw [Nat.min_eq_right l]
  rcases Nat.le_total a n with k | k
  ·rw [Nat.min_eq_left k];exact Nat.sub_le_sub_right l a
  ·rw [Nat.min_eq_right k,Nat.sub_self];exact Nat.zero_le _
theorem QeO{α:Type}{xs:List α}{a b:Int}(ha:0<=a)(hb:a<=b):(Zi xs (some a) (some b)).length<=(b-a).toNat:=by
 have e1:Zm xs.length 0 (some a)=min a.toNat xs.length:=by simp only [Zm];rw [if_neg (by omega)]
 have e2:Zm xs.length xs.length (some b)=min b.toNat xs.length:=by simp only [Zm];rw [if_neg (by omega)]
 unfold Zi;rw [e1,e2,List.length_take]
 refine Nat.le_trans (Nat.min_le_left _ _) (Nat.le_trans (QiF a.toNat b.toNat xs.length (by omega)) ?_)
 omega
theorem QbZ{n:Nat}:0<ZD n:=by unfold ZD;split<;>omega
theorem Qad(W:Ws)(x:Int):(QcA W x).length<=4:=by
 have h1:0<=x / 4 % ZD (pickL W).length:=Int.emod_nonneg _ (by have:=QbZ (n:=(pickL W).length);omega)
 have h2:0<=x % 4:=Int.emod_nonneg _ (by decide)
 have h3:x % 4<4:=Int.emod_lt_of_pos _ (by decide)
 unfold QcA;generalize x / 4 % ZD (pickL W).length=y at h1
 have:=QeO (xs:=pickL W) (a:=y) (b:=y+1+x % 4) h1 (by omega)
 omega
theorem Qn6:b9=[(.set 2 .dnewT),(.loopK 3 (.ix (.var 0) (.c (.str [107,101,112,116]))) bdG),(.set 5 (.lst [])),(.loop (.name 6) (.rng (.bi .len [(.ix (.var 0) (.c (.str [114,111,119,115])))])) bdR),(.set 7 (.op .Mod (.op .FloorDiv (.var 1) (.c (.int 4 0))) (.bi .max [(.c (.int 1 0)),(.bi .len [(.var 5)])]))),(.loop (.name 4) (.seq (.sl (.var 5) (some (.var 7)) (some (.op .Add (.op .Add (.var 7) (.c (.int 1 0))) (.op .Mod (.var 1) (.c (.int 4 0))))))) bdP)]:=rfl
theorem cl9{s:List U}{m:Nat}{a b:U}{hs:Hs}:Qa (tb s) (m+1) 9 [a,b] hs=fin (exs (tb s) (Qa (tb s) m) dd b9 [some a,some b,none,none,none,none,none,none] hs):=rfl
theorem QjF{T:Tbl}{cf:Cf}{d:Nat}{ρ:Rho}{hs:Hs}:ev T cf (d+1) .dnewT ρ hs=some (.ref hs.length,hs++[.dct []]):=by rw [ev]
theorem dv4{x:Int}:Qcf (.int x 0) (.int 4 0)=some (.int (x / 4) 0):=by
 have h:(decide ((0:Int) < 4)&&decide ((4:Int) < 1606938044258990275541962092341162602522202993782792835301376))=true:=by decide
 simp only [Qcf];rw [if_pos h]
theorem Qnl{T:Tbl}{n:Nat}{hs:Hs}:biU T .max [.int 1 0,.int n 0] hs=some (.int (ZD n) 0,hs):=rfl
theorem QfJ{α:Type}{l:List α}{i:Nat}{x:α}(h:l[i]?=some x):l.set i x=l:=by
 obtain⟨lt,e⟩:=List.getElem?_eq_some_iff.mp h;rw [<-e];exact List.set_getElem_self lt
theorem ZF{T:Tbl}{cf:Cf}{d:Nat}{t:Tg}{src:Src}{body:List S}{ρ:Rho}{hs h1:Hs}{w:Wk}{r:Option (Fl×Rho×Hs)}(es:Ze T (ev T cf d) ρ src hs=some (w,h1))(ef:ZE T w t (exs T cf d body) (QZ T w h1) 0 ρ h1=r):ex T cf (d+1) (.loop t src body) ρ hs=r:=by
 rw [Qbs,es,Qo,ef]
theorem Web.fresh{hs:Hs}{q:Pl}{c:Ct}{W:Ws}(h:Web hs q c W){i:Nat}(l:hs.length<=i):i∉Qs q c:=fun mm=>by
 rw [<-Yg q c W]at mm;obtain⟨p,mp,ep⟩:=List.mem_map.mp mm;have:=h.cs.lt mp;omega
theorem Qft{s:List U}{hs:Hs}{q:Pl}{c:Ct}{W:Ws}{m:Nat}{x:Int}(h:Web hs q c W)(ok:Ok W)(l:sz W<100000):
  ∃hs' c',Qa (tb s) (m+1) 9 [.ref q.w,.int x 0] hs=some (.non,hs')/\Web hs' q c' (YK W x)/\Qs q c'=Qs q c/\Frm hs hs' (Qs q c)/\TK hs hs':=by
 have hw:=h.mem (p:=(q.w,.dic (QK q))) (by simp [cells])
 have hr:=h.mem (p:=(q.r,.lst c.rr)) (by simp [cells])
 have hk:=h.mem (p:=(q.k,.dic (c.kc.map fun x=>(x.1,.ref x.2.1)))) (by simp [cells])
 have nd:=h.nd;simp only [Qs,List.cons_append,List.nil_append,List.nodup_cons,List.mem_cons,not_or]at nd;obtain⟨⟨a1,a2,a3,a4,a5,a6,a7⟩,⟨b1,b2,b3,b4,b6,b7⟩,⟨c1,c2,c3,c4,c5⟩,⟨d1,d2,d3,d4⟩,⟨e1,e2,e3⟩,⟨f1,f2⟩,g1,nk⟩:=nd;have lk:q.k<hs.length:=(List.getElem?_eq_some_iff.mp hk).1;generalize hkd:(c.kc.map fun x=>(x.1,U.ref x.2.1))=kd at hk
 have lz:szR W.rows<100000/\QaL W.kept<100000/\W.given.length<100000/\W.new.length<100000/\W.rows.length<100000:=by unfold sz at l;omega
 obtain⟨lz1,lz2,lz3,lz4,lz5⟩:=lz;have er:=Qg h.rs.rr;have eg:=Qg h.rs.gs;have en:=Qg h.rs.ns
 -- the walk over the keepers
 have tH:TK hs (hs.set q.k (.fzd kd)):=TK.set hk (by simp)
 have gH:∀{i:Nat} {o:O},hs[i]?=some o->i≠q.k->(hs.set q.k (.fzd kd))[i]?=some o:=fun e n=>by rw [List.getElem?_set_ne (Ne.symm n)];exact e
 have hkc:∀y∈c.kc,hs[y.2.1]?=some (.lst y.2.2):=fun y m=>h.mem (p:=(y.2.1,.lst y.2.2)) (by simp only [cells];exact List.mem_append_right _ (List.mem_map.mpr ⟨y,m,rfl⟩))
 have kks:=Qeh h.rs.kc
 have kdk:kd.map (·.1)=c.kc.map (·.1):=by rw [<-hkd,List.map_map];rfl
 have kkU:∀y∈c.kc,Y6 y.1=true:=fun y m=>by
  have:y.1∈W.kept.map (·.1):=kks▸List.mem_map.mpr ⟨y,m,rfl⟩;obtain⟨p,mp,ep⟩:=List.mem_map.mp this;rw [<-ep];exact ok.kk p mp
 obtain⟨o3,o4,G⟩:=Qd6 (T:=tb s) (cf:=Qa (tb s) m) (d:=77) (H:=hs.set q.k (.fzd kd)) (q:=q) (x:=.int x 0) (kd:=kd) (gH hw a5) (by rw [List.getElem?_set_self lk]) (by rw [kdk,kks];exact ok.kn) (kc:=c.kc) (as:=[]) (gk:=[]) (o3:=none) (o4:=none) (by rw [<-hkd];rfl) (fun y m=>gH (hkc y m) (fun z=>f2 (z▸List.mem_map.mpr ⟨y,m,rfl⟩))) kkU (Qc (fun _ _ r=>⟨r.1,Qc (fun _ _=>DN.mono tH) r.2⟩) h.rs.kc) (by simp;omega)
 generalize hgk:QiY W.kept []=gk at G;rw [List.length_set]at G
 -- the rows
 have hA:=h.app (r:=[O.dct gk,O.lst []])
 obtain⟨z,so,us,o6,R1,R2,R3,R4⟩:=Qd4 (T:=tb s) (cf:=Qa (tb s) m) (d:=75) (gi:=hs.length) (gk:=gk) (q:=q) (rr:=c.rr) (x:=.int x 0) (o3:=o3) (o4:=o4) (rv:=c.rr) (i:=0) (k:=c.rr.length+1) (so:=hs.length+1) (us:=[]) (nms:=[]) (o6:=none) (M:=Qs q c) rfl
  (hA.mem (p:=(q.w,.dic (QK q))) (by simp [cells])) (hA.mem (p:=(q.r,.lst c.rr)) (by simp [cells])) at0 hA.rs.rr (by rw [List.getElem?_append_right (by omega)];simp) .nil (by simp;omega) (by omega)
 have eu:=Qg R3;rw [List.nil_append]at eu R3;have hB:=hA.app (r:=z)
 -- the slice
 have hC:=hB.app (r:=[O.lst (Zi us (some (x / 4 % ZD us.length)) (some (x / 4 % ZD us.length+1+x % 4)))])
 have hs2:hs.length<=(hs++[O.dct gk,O.lst []]++z).length:=by simp
 have pz:PySem.Paired (DN (hs++[O.dct gk,O.lst []]++z++[O.lst (Zi us (some (x / 4 % ZD us.length)) (some (x / 4 % ZD us.length+1+x % 4)))])) (Zi us (some (x / 4 % ZD us.length)) (some (x / 4 % ZD us.length+1+x % 4))) (QcA W x):=by
  have:=Qid (a:=some (x / 4 % ZD us.length)) (b:=some (x / 4 % ZD us.length+1+x % 4)) R3
  have e:QcA W x=Zi (Zw gk 0 W.rows) (some (x / 4 % ZD us.length)) (some (x / 4 % ZD us.length+1+x % 4)):=by rw [eu];unfold QcA pickL;rw [hgk]
  rw [e];exact Qc (fun _ _=>Zh) this
 have lp:=Qad W x;have lc:=Qg pz
 obtain⟨hs',c',ρ',P1,P2,P3,P4,P5⟩:=Qd5 (T:=tb s) (cf:=Qa (tb s) m) (d:=73) (q:=q) (L:=(hs++[O.dct gk,O.lst []]++z).length) (vs:=Zi us (some (x / 4 % ZD us.length)) (some (x / 4 % ZD us.length+1+x % 4))) (i:=0) (k:=(Zi us (some (x / 4 % ZD us.length)) (some (x / 4 % ZD us.length+1+x % 4))).length+1) (ρ:=[some (.ref q.w),some (.int x 0),some (.ref hs.length),o3,o4,some (.ref so),o6,some (.int (x / 4 % ZD us.length) 0)]) rfl hC at0 (h.fresh hs2) pz (by omega) (by omega) (by omega) rfl (by simp)
 refine⟨hs',c',?_,P2,P3,?_,?_⟩
 ·rw [cl9,Qn6];have x1:=Yk (TT:=tb s) (cf:=Qa (tb s) m) (d:=98) (i:=2) (ρ:=[some (.ref q.w),some (.int x 0),none,none,none,none,none,none]) (h:=hs) QjF
  have v2:ev (tb s) (Qa (tb s) m) 97 (.ix (.var 0) (.c (.str [107,101,112,116]))) [some (.ref q.w),some (.int x 0),some (.ref hs.length),none,none,none,none,none] (hs++[O.dct []])=some (.ref q.k,hs++[O.dct []]):=by
   simp only [Zq,Qi,y_c,Qo,List.getElem?_cons_zero,s_K (Qj hw),Option.map]
  have x2:=Qhp (i:=3) (body:=bdG) v2 (Qj hk) (ρ':=[some (.ref q.w),some (.int x 0),some (.ref hs.length),o3,o4,none,none,none]) (h2:=hs.set q.k (.fzd kd)++[O.dct gk]) (kvs2:=kd) (by rw [kdk,List.set_append_left _ _ lk];exact G) (Qj (by rw [List.getElem?_set_self lk]))
  have eH:(hs.set q.k (.fzd kd)++[O.dct gk]).set q.k (.dic kd)=hs++[O.dct gk]:=by
   rw [List.set_append_left _ _ (by simpa using lk),List.set_set,QfJ hk]
  rw [eH]at x2
  have x3:ex (tb s) (Qa (tb s) m) 97 (.set 5 (.lst [])) [some (.ref q.w),some (.int x 0),some (.ref hs.length),o3,o4,none,none,none] (hs++[O.dct gk])=some (.next,[some (.ref q.w),some (.int x 0),some (.ref hs.length),o3,o4,some (.ref (hs.length+1)),none,none],hs++[O.dct gk,O.lst []]):=by
   simp [Yh,Zs,evs,Qo]
  have v4:ev (tb s) (Qa (tb s) m) 95 (.bi .len [(.ix (.var 0) (.c (.str [114,111,119,115])))]) [some (.ref q.w),some (.int x 0),some (.ref hs.length),o3,o4,some (.ref (hs.length+1)),none,none] (hs++[O.dct gk,O.lst []])=some (.int (c.rr.length:Int) 0,hs++[O.dct gk,O.lst []]):=by
   simp only [Yy,evs,Zq,Qi,y_c,Qo,s_R (Qj hw),Option.map,List.getElem?_cons_zero,Zb (Qj hr)]
  have x4:=ZF (t:=.name 6) (body:=bdR) (YC v4 (by omega)) R1
  have v5:ev (tb s) (Qa (tb s) m) 94 (.op .Mod (.op .FloorDiv (.var 1) (.c (.int 4 0))) (.bi .max [(.c (.int 1 0)),(.bi .len [(.var 5)])])) [some (.ref q.w),some (.int x 0),some (.ref hs.length),o3,o4,some (.ref so),o6,none] (hs++[O.dct gk,O.lst []]++z)=some (.int (x / 4 % ZD us.length) 0,hs++[O.dct gk,O.lst []]++z):=by
   simp only [Yi,Qi,y_c,Yy,evs,Qo,List.getElem?_cons_zero,List.getElem?_cons_succ,opU,dv4,Option.map,Zb R2,Qnl,md (QbZ (n:=us.length))]
  have x5:=Yk (i:=7) v5
  have k1:wkS (tb s) (.ref (hs++[O.dct gk,O.lst []]++z).length) (hs++[O.dct gk,O.lst []]++z++[O.lst (Zi us (some (x / 4 % ZD us.length)) (some (x / 4 % ZD us.length+1+x % 4)))])=some (.seqL (.ref (hs++[O.dct gk,O.lst []]++z).length)):=by simp only [wkS,QA,at0]
  have u1:QZ (tb s) (.seqL (.ref (hs++[O.dct gk,O.lst []]++z).length)) (hs++[O.dct gk,O.lst []]++z++[O.lst (Zi us (some (x / 4 % ZD us.length)) (some (x / 4 % ZD us.length+1+x % 4)))])=(Zi us (some (x / 4 % ZD us.length)) (some (x / 4 % ZD us.length+1+x % 4))).length+1:=by simp only [QZ,QA,at0,Option.getD_some]
  have s6:Ze (tb s) (ev (tb s) (Qa (tb s) m) 93) [some (.ref q.w),some (.int x 0),some (.ref hs.length),o3,o4,some (.ref so),o6,some (.int (x / 4 % ZD us.length) 0)] (.seq (.sl (.var 5) (some (.var 7)) (some (.op .Add (.op .Add (.var 7) (.c (.int 1 0))) (.op .Mod (.var 1) (.c (.int 4 0))))))) (hs++[O.dct gk,O.lst []]++z)=some (.seqL (.ref (hs++[O.dct gk,O.lst []]++z).length),hs++[O.dct gk,O.lst []]++z++[O.lst (Zi us (some (x / 4 % ZD us.length)) (some (x / 4 % ZD us.length+1+x % 4)))]):=by
   simp only [Ze,Qjv,evO,Qi,Yi,y_c,Qo,List.getElem?_cons_zero,List.getElem?_cons_succ,opU,Qc0,gz,md (show(0:Int) < 4 by decide),Option.map,Qj5 R2,k1]
  have x6:=ZF (r:=some (.next,ρ',hs')) (t:=.name 4) (body:=bdP) s6 (by rw [u1];exact P1)
  have d5:([some (.ref q.w),some (.int x 0),some (.ref hs.length),o3,o4,some (.ref so),o6,none]:Rho).set 7 (some (.int (x / 4 % ZD us.length) 0))=[some (.ref q.w),some (.int x 0),some (.ref hs.length),o3,o4,some (.ref so),o6,some (.int (x / 4 % ZD us.length) 0)]:=rfl;rw [d5]at x5;have d1:([some (.ref q.w),some (.int x 0),none,none,none,none,none,none]:Rho).set 2 (some (.ref hs.length))=[some (.ref q.w),some (.int x 0),some (.ref hs.length),none,none,none,none,none]:=rfl;rw [d1]at x1;rw [show dd=100 from rfl,Qn x1,Qn x2,Qn x3,Qn x4,Qn x5,Qn x6,Q3];rfl
 ·exact Frm.app.trans (Frm.app.trans (Frm.app.trans P4))
 ·exact TK.app.trans (TK.app.trans (TK.app.trans P5))
theorem dvj{x j:Int}(h:(decide ((0:Int) < j)&&decide (j<1606938044258990275541962092341162602522202993782792835301376))=true):Qcf (.int x 0) (.int j 0)=some (.int (x / j) 0):=by
 simp only [Qcf];rw [if_pos h]
theorem Qjb{α:Type}{xs:List α}{n:Int}(h:0<=n):Zi xs none (some n)=xs.take n.toNat:=by
 have e1:Zm xs.length xs.length (some n)=min n.toNat xs.length:=by simp only [Zm];rw [if_neg (by omega)]
 have e2:Zm xs.length 0 none=0:=rfl;unfold Zi;rw [e1,e2,List.drop_zero,Nat.sub_zero]
 rcases Nat.le_total n.toNat xs.length with l | l
 ·rw [Nat.min_eq_left l]
 ·rw [Nat.min_eq_right l,List.take_of_length_le (Nat.le_refl _),List.take_of_length_le l]
noncomputable def Q4(x:Int):Nat:=if x % 8=5 then 0 else if x % 8=7 then(2+x / 8 % 7).toNat else if x % 8=3 then(2+x / 8 % 3).toNat else 1
noncomputable def QnC:List S:=[(.set 2 (.op .Mod (.var 1) (.c (.int 8 0)))),(.set 3 (.op .FloorDiv (.var 1) (.c (.int 8 0)))),(.set 4 (.sl (.ix (.var 0) (.c (.str [108,101,102,116]))) none (some (.c (.int 1 0))))),(.ite (.cmp .Eq (.var 2) (.c (.int 3 0))) [(.set 4 (.sl (.ix (.var 0) (.c (.str [108,101,102,116]))) none (some (.op .Add (.c (.int 2 0)) (.op .Mod (.var 3) (.c (.int 3 0)))))))] []),(.ite (.cmp .Eq (.var 2) (.c (.int 7 0))) [(.set 4 (.sl (.ix (.var 0) (.c (.str [108,101,102,116]))) none (some (.op .Add (.c (.int 2 0)) (.op .Mod (.var 3) (.c (.int 7 0)))))))] []),(.ite (.cmp .Eq (.var 2) (.c (.int 5 0))) [(.set 4 (.lst []))] [])]
noncomputable def QfP:S:=(.put (.var 0) (.c (.str [108,101,102,116])) (.sl (.ix (.var 0) (.c (.str [108,101,102,116]))) (some (.bi .len [(.var 4)])) none))
section
variable {T:Tbl}{cf:Cf}{d:Nat}{hs:Hs}{q:Pl}{ls:List U}{x:Int}
theorem Qfq{t:E}{a b:List S}{ρ:Rho}{h1:Hs}{k:Bool}{r:Option (Fl×Rho×Hs)}(e:evT T cf d t ρ hs=some (k,h1))(e2:(if k=true then exs T cf d a ρ h1 else exs T cf d b ρ h1)=r):ex T cf (d+1) (.ite t a b) ρ hs=r:=by
 rw [Yj,e,Qo,e2]
theorem QaP{i:Nat}{j y:Int}{ρ:Rho}(h:ρ[i]?=some (some (.int y 0))):evT T cf (d+3) (.cmp .Eq (.var i) (.c (.int j 0))) ρ hs=some (decide (y=j),hs):=by
 rw [QP,Q6,Qi,h];simp only [Qo,y_c,Zn,eq_int,Option.map,Zj]
theorem Qbm{n:Nat}{ρ:Rho}{e:E}{j:Int}(h0:ρ[0]?=some (some (.ref q.w)))(hw:hs[q.w]?=some (.dic (QK q)))(hl:hs[q.l]?=some (.lst ls))(he:ev T cf (d+8) e ρ hs=some (.int j 0,hs))(hj:0<=j):
  ex T cf (d+10) (.set 4 (.sl (.ix (.var 0) (.c (.str [108,101,102,116]))) none (some e))) ρ hs=some (.next,ρ.set 4 (some (.ref hs.length)),hs++[.lst (ls.take j.toNat)]):=by
 refine Yk ?_;simp only [Qjv,Zq,Qi,h0,y_c,Qo,s_L hw,Option.map,evO,he,Qj5 hl,Qjb hj]
theorem QhO{rest:List S}(hw:hs[q.w]?=some (.dic (QK q)))(hl:hs[q.l]?=some (.lst ls)):∃r so,exs T cf (d+30) (QnC++rest) [some (.ref q.w),some (.int x 0),none,none,none,none] hs=exs T cf (d+24) rest [some (.ref q.w),some (.int x 0),some (.int (x % 8) 0),some (.int (x / 8) 0),some (.ref so),none] (hs++r)/\(hs++r)[so]?=some (.lst (ls.take (Q4 x)))/\hs.length<=so:=by
 have x1:ex T cf (d+29) (.set 2 (.op .Mod (.var 1) (.c (.int 8 0)))) [some (.ref q.w),some (.int x 0),none,none,none,none] hs=some (.next,[some (.ref q.w),some (.int x 0),some (.int (x % 8) 0),none,none,none],hs):=by
  simp only [Yh,Yi,Qi,y_c,Qo,opU,md (show(0:Int) < 8 by decide),Option.map,List.getElem?_cons_zero,List.getElem?_cons_succ,List.set_cons_succ,List.set_cons_zero]
 have x2:ex T cf (d+28) (.set 3 (.op .FloorDiv (.var 1) (.c (.int 8 0)))) [some (.ref q.w),some (.int x 0),some (.int (x % 8) 0),none,none,none] hs=some (.next,[some (.ref q.w),some (.int x 0),some (.int (x % 8) 0),some (.int (x / 8) 0),none,none],hs):=by
  simp only [Yh,Yi,Qi,y_c,Qo,opU,dvj (show(decide ((0:Int) < 8)&&decide ((8:Int) < 1606938044258990275541962092341162602522202993782792835301376))=true by decide),Option.map,List.getElem?_cons_zero,List.getElem?_cons_succ,List.set_cons_succ,List.set_cons_zero]
 have x3:ex T cf (d+27) (.set 4 (.sl (.ix (.var 0) (.c (.str [108,101,102,116]))) none (some (.c (.int 1 0))))) [some (.ref q.w),some (.int x 0),some (.int (x % 8) 0),some (.int (x / 8) 0),none,none] hs=some (.next,[some (.ref q.w),some (.int x 0),some (.int (x % 8) 0),some (.int (x / 8) 0),some (.ref hs.length),none],hs++[.lst (ls.take 1)]):=Qbm (T:=T) (cf:=cf) (d:=d+17) (n:=0) (e:=.c (.int 1 0)) (j:=1) (ρ:=[some (.ref q.w),some (.int x 0),some (.int (x % 8) 0),some (.int (x / 8) 0),none,none]) rfl hw hl y_c (by decide)
 have m3:0<=2+x / 8 % 3:=by have:=Int.emod_nonneg (x / 8) (show(3:Int)≠0 by decide);omega
 have m7:0<=2+x / 8 % 7:=by have:=Int.emod_nonneg (x / 8) (show(7:Int)≠0 by decide);omega
 have hw1:∀r,(hs++r)[q.w]?=some (.dic (QK q)):=fun r=>Qj hw;have hl1:∀r,(hs++r)[q.l]?=some (.lst ls):=fun r=>Qj hl
 have v3:∀so (h:Hs) d,ev T cf (d+8) (.op .Add (.c (.int 2 0)) (.op .Mod (.var 3) (.c (.int 3 0)))) [some (.ref q.w),some (.int x 0),some (.int (x % 8) 0),some (.int (x / 8) 0),so,none] h=some (.int (2+x / 8 % 3) 0,h):=fun so h d=>by
  simp only [Yi,Qi,y_c,Qo,opU,Qc0,gz,md (show(0:Int) < 3 by decide),Option.map,List.getElem?_cons_zero,List.getElem?_cons_succ]
 have v7:∀so (h:Hs) d,ev T cf (d+8) (.op .Add (.c (.int 2 0)) (.op .Mod (.var 3) (.c (.int 7 0)))) [some (.ref q.w),some (.int x 0),some (.int (x % 8) 0),some (.int (x / 8) 0),so,none] h=some (.int (2+x / 8 % 7) 0,h):=fun so h d=>by
  simp only [Yi,Qi,y_c,Qo,opU,Qc0,gz,md (show(0:Int) < 7 by decide),Option.map,List.getElem?_cons_zero,List.getElem?_cons_succ]
 have tt:∀so (h:Hs) (j:Int) d,evT T cf (d+3) (.cmp .Eq (.var 2) (.c (.int j 0))) [some (.ref q.w),some (.int x 0),some (.int (x % 8) 0),some (.int (x / 8) 0),so,none] h=some (decide (x % 8=j),h):=fun so h j d=>QaP rfl
 have no:∀so (h:Hs) (j:Int) a d,¬x % 8=j->ex T cf (d+4) (.ite (.cmp .Eq (.var 2) (.c (.int j 0))) a []) [some (.ref q.w),some (.int x 0),some (.int (x % 8) 0),some (.int (x / 8) 0),so,none] h=some (.next,[some (.ref q.w),some (.int x 0),some (.int (x % 8) 0),some (.int (x / 8) 0),so,none],h):=fun so h j a d ne=>by
  refine Qfq (tt so h j d) ?_
  rw [if_neg (by simpa using ne),Q3]
 have l0:(hs++[O.lst (ls.take 1)]).length=hs.length+1:=by simp
 unfold QnC;rw [List.cons_append,Qn x1,List.cons_append,Qn x2,List.cons_append,Qn x3];simp only [List.set_cons_succ,List.set_cons_zero,List.cons_append,List.nil_append];by_cases h3:x % 8=3
 ·have a3:=Qbm (T:=T) (cf:=cf) (d:=d+14) (n:=0) (q:=q) (j:=2+x / 8 % 3) (hs:=hs++[O.lst (ls.take 1)]) (ρ:=[some (.ref q.w),some (.int x 0),some (.int (x % 8) 0),some (.int (x / 8) 0),some (.ref hs.length),none]) rfl (hw1 _) (hl1 _) (v3 _ _ _) m3
  have y3:=Qfq (b:=[]) (tt (some (.ref hs.length)) (hs++[O.lst (ls.take 1)]) 3 (d+22)) ((if_pos (by simpa using h3)).trans (Qr a3))
  simp only [List.set_cons_succ,List.set_cons_zero]at y3
  rw [Qn y3,Qn (no _ _ 7 _ (d+21) (by omega)),Qn (no _ _ 5 _ (d+20) (by omega))]
  refine⟨[O.lst (ls.take 1),O.lst (ls.take (2+x / 8 % 3).toNat)],hs.length+1,?_,?_,by omega⟩
  ·rw [l0];simp
  ·have e:Q4 x=(2+x / 8 % 3).toNat:=by unfold Q4;rw [if_neg (by omega),if_neg (by omega),if_pos h3]
   rw [List.getElem?_append_right (by omega),e]
   simp
 ·rw [Qn (no _ _ 3 _ (d+22) h3)];by_cases h7:x % 8=7
  ·have a7:=Qbm (T:=T) (cf:=cf) (d:=d+13) (n:=0) (q:=q) (j:=2+x / 8 % 7) (hs:=hs++[O.lst (ls.take 1)]) (ρ:=[some (.ref q.w),some (.int x 0),some (.int (x % 8) 0),some (.int (x / 8) 0),some (.ref hs.length),none]) rfl (hw1 _) (hl1 _) (v7 _ _ _) m7
   have y7:=Qfq (b:=[]) (tt (some (.ref hs.length)) (hs++[O.lst (ls.take 1)]) 7 (d+21)) ((if_pos (by simpa using h7)).trans (Qr a7))
   simp only [List.set_cons_succ,List.set_cons_zero]at y7
   rw [Qn y7,Qn (no _ _ 5 _ (d+20) (by omega))]
   refine⟨[O.lst (ls.take 1),O.lst (ls.take (2+x / 8 % 7).toNat)],hs.length+1,?_,?_,by omega⟩
   ·rw [l0];simp
   ·have e:Q4 x=(2+x / 8 % 7).toNat:=by unfold Q4;rw [if_neg (by omega),if_pos h7]
    rw [List.getElem?_append_right (by omega),e]
    simp
  ·rw [Qn (no _ _ 7 _ (d+21) h7)];by_cases h5:x % 8=5
   ·have a5:ex T cf (d+22) (.set 4 (.lst [])) [some (.ref q.w),some (.int x 0),some (.int (x % 8) 0),some (.int (x / 8) 0),some (.ref hs.length),none] (hs++[O.lst (ls.take 1)])=some (.next,[some (.ref q.w),some (.int x 0),some (.int (x % 8) 0),some (.int (x / 8) 0),some (.ref (hs.length+1)),none],hs++[O.lst (ls.take 1),O.lst []]):=by
     simp [Yh,Zs,evs,Qo]
    have y5:=Qfq (b:=[]) (tt (some (.ref hs.length)) (hs++[O.lst (ls.take 1)]) 5 (d+20)) ((if_pos (by simpa using h5)).trans (Qr a5))
    rw [Qn y5]
    refine⟨[O.lst (ls.take 1),O.lst []],hs.length+1,rfl,?_,by omega⟩
    have e:Q4 x=0:=by unfold Q4;rw [if_pos h5]
    rw [List.getElem?_append_right (by omega),e]
    simp
   ·rw [Qn (no _ _ 5 _ (d+20) h5)]
    refine⟨[O.lst (ls.take 1)],hs.length,rfl,?_,by omega⟩
    have e:Q4 x=1:=by unfold Q4;rw [if_neg h5,if_neg h7,if_neg h3]
    rw [e];exact at0
theorem Qj3{so:Nat}{vs:List U}{ρ:Rho}(h0:ρ[0]?=some (some (.ref q.w)))(h4:ρ[4]?=some (some (.ref so)))(hw:hs[q.w]?=some (.dic (QK q)))(hl:hs[q.l]?=some (.lst ls))(hv:hs[so]?=some (.lst vs))(lv:vs.length<=ls.length):
  ex T cf (d+20) QfP ρ hs=some (.next,ρ,(hs++[O.lst (ls.drop vs.length)]).set q.w (.dic (QK { q with l:=hs.length }))):=by
 have hw1:(hs++[O.lst (ls.drop vs.length)])[q.w]?=some (.dic (QK q)):=Qj hw;simp only [QfP,Qcn,Qjv,Zq,Qi,h0,h4,y_c,Qo,s_L hw,Option.map,evO,Yy,evs,Zb hv,Qj5 hl,Qcg lv,p_L hw1]
end
theorem Web.setL{hs:Hs}{q:Pl}{c:Ct}{W:Ws}{i:Nat}{us:List U}{nms:List Nm}(h:Web hs q c W)(hi:hs[i]?=some (.lst us))(ni:i∉Qs q c)(pn:PySem.Paired (DN hs) us nms):
  Web (hs.set q.w (.dic (QK { q with l:=i }))) { q with l:=i } { c with ls:=us } { W with left:=nms }:=by
 have hw:=h.mem (p:=(q.w,.dic (QK q))) (by simp [cells])
 have t:TK hs (hs.set q.w (.dic (QK { q with l:=i }))):=TK.set hw (by simp)
 have sk:=Zz (hs:=hs) (y:=.dic (QK { q with l:=i })) (show q.w∈Qs q c by simp [Qs])
 have R:=h.rs.mono t sk;exact⟨Cells.set (as:=[]) h.cs,⟨R.rr,R.gs,R.ns,R.os,(sk _ _ hi ni).1,ni,Qc (fun _ _=>DN.mono t) pn,R.kc⟩⟩
theorem Qgp{i j:Nat}:eqS (.ref i) (.ref j)=none:=rfl
theorem JI{T:Tbl}{hs:Hs}{p e:Nat}{xs:List U}(hp:hs[p]?=some (.lst xs))(he:hs[e]?=some (.lst [])):eqA T (.ref p) (.ref e) hs=some (decide (xs=[])):=by
 cases xs with
 | nil=>simp [eqA,Qgp,Y5,QaT,QA,hp,he]
 | cons a r=>simp [eqA,Qgp,Y5,QA,hp,he]
noncomputable def gvN(W:Ws)(nms:List Nm)(y:Int):Nat->Nat->Ws
 | _,0=>W
 | i,m+1=>gvN (Q8 W nms (y+(i:Int)) 0) nms y (i+1) m
noncomputable def Y2(W:Ws)(x:Int):Ws:={ W with left:=W.left.drop (W.left.take (Q4 x)).length }
noncomputable def Za(W:Ws)(nms:List Nm)(x:Int):Ws:=match nms with
 | []=>Q8 W [] (x / 8) 0
 | a::r=>if x % 8=2 then { W with given:=W.given++[a] }
  else if x % 8=3/\x / 8 / 3 % 2=1 then Q8 W (a::r).reverse (x / 8 / 6) 0
  else if x % 8=4 then gvN W (a::r) (x / 8 / 3) 0 (2+x / 8 % 3).toNat
  else if x % 8=6 then Zu W a (x / 8)
  else if x % 8=7/\1<(a::r).length then ZM W (a::r) (x / 8)
  else Q8 W (a::r) (x / 8 / 6) 0
noncomputable def step(W:Ws)(x:Int):Ws:=Za (Y2 W x) (W.left.take (Q4 x)) x
theorem Jw(x:Int):Q4 x<=8:=by
 have:=Int.emod_lt_of_pos (x / 8) (show(0:Int) < 7 by decide)
 have:=Int.emod_lt_of_pos (x / 8) (show(0:Int) < 3 by decide)
 unfold Q4
 repeat (first | omega | split)
noncomputable def bd4:List S:=[(.expr (.call 6 [(.var 0),(.var 4),(.op .Add (.op .FloorDiv (.var 3) (.c (.int 3 0))) (.var 5)),(.c (.int 0 0))]))]
theorem Qd8{s:List U}{m d:Nat}{q:Pl}{so N:Nat}{us:List U}{nms:List Nm}{x y k:Int}:
  ∀(n i:Nat) {hs:Hs} {c:Ct} {W:Ws} {o:Option U},i+n=N->Web hs q c W->hs[so]?=some (.lst us)->so∉Qs q c->PySem.Paired (DN hs) us nms->c.gs.length+n<1000000->c.ns.length+n<1000000 ->
  ∃hs' c' ρ',ZE (tb s) (.rng 0 N) (.name 5) (exs (tb s) (Qa (tb s) (m+1)) (d+20) bd4) (n+1) i [some (.ref q.w),some (.int x 0),some (.int k 0),some (.int y 0),some (.ref so),o] hs=some (.next,ρ',hs')/\Web hs' q c' (gvN W nms (y / 3) i n)/\Qs q c'=Qs q c/\Frm hs hs' (Qs q c)/\TK hs hs':=by
 intro n
 induction n with
 | zero =>
  intro i hs c W o e h hso np dp l1 l2
  have:¬i<N:=by omega
  exact⟨hs,c,[some (.ref q.w),some (.int x 0),some (.int k 0),some (.int y 0),some (.ref so),o],by simp only [ZE,itm,this,if_false],h,rfl,Frm.refl,TK.refl⟩
 | succ n ih =>
  intro i hs c W o e h hso np dp l1 l2
  have lt:i<N:=by omega
  obtain⟨hs1,c1,g1,w1,m1,q1,q2,f1,t1⟩:=YB (s:=s) (m:=m) (pa:=so) (x:=y / 3+(i:Int)) (z:=0) h hso np dp (by omega) (by omega)
  obtain⟨hs',c',ρ',g2,w2,m2,f2,t2⟩:=ih (i+1) (o:=some (.int i 0)) (by omega) w1 (f1 _ _ hso np) (m1▸np) (Qc (fun _ _=>DN.mono t1) dp) (by omega) (by omega)
  refine⟨hs',c',ρ',?_,w2,m2.trans m1,f1.trans (m1▸f2),t1.trans t2⟩
  have b:exs (tb s) (Qa (tb s) (m+1)) (d+20) bd4 [some (.ref q.w),some (.int x 0),some (.int k 0),some (.int y 0),some (.ref so),some (.int i 0)] hs=some (.next,[some (.ref q.w),some (.int x 0),some (.int k 0),some (.int y 0),some (.ref so),some (.int i 0)],hs1):=by
   generalize Qa (tb s) (m+1)=cf at g1 ⊢;generalize tb s=T;simp [bd4,QL,Zo,QY,evs,Qi,Yi,y_c,opU,dv3,Qc0,gz,g1,Q3,Qo]
  rw [ZE];simp only [itm,lt,if_true,tgt,List.set_cons_succ,List.set_cons_zero,Int.zero_add];rw [b];exact g2
noncomputable def QnV:S:=(.ite (.cmp .Eq (.var 4) (.lst [])) [(.expr (.call 6 [(.var 0),(.lst []),(.var 3),(.c (.int 0 0))]))] [(.ite (.cmp .Eq (.var 2) (.c (.int 2 0))) [(.expr (.bm .append (.ix (.var 0) (.c (.str [103,105,118,101,110]))) [(.ix (.var 4) (.c (.int 0 0)))]))] [(.ite (.and (.cmp .Eq (.var 2) (.c (.int 3 0))) (.cmp .Eq (.op .Mod (.op .FloorDiv (.var 3) (.c (.int 3 0))) (.c (.int 2 0))) (.c (.int 1 0)))) [(.expr (.call 6 [(.var 0),(.rev (.var 4)),(.op .FloorDiv (.var 3) (.c (.int 6 0))),(.c (.int 0 0))]))] [(.ite (.cmp .Eq (.var 2) (.c (.int 4 0))) [(.loop (.name 5) (.rng (.op .Add (.c (.int 2 0)) (.op .Mod (.var 3) (.c (.int 3 0))))) bd4)] [(.ite (.cmp .Eq (.var 2) (.c (.int 6 0))) [(.expr (.call 8 [(.var 0),(.ix (.var 4) (.c (.int 0 0))),(.var 3)]))] [(.ite (.and (.cmp .Eq (.var 2) (.c (.int 7 0))) (.cmp .Gt (.bi .len [(.var 4)]) (.c (.int 1 0)))) [(.expr (.call 10 [(.var 0),(.var 4),(.var 3)]))] [(.expr (.call 6 [(.var 0),(.var 4),(.op .FloorDiv (.var 3) (.c (.int 6 0))),(.c (.int 0 0))]))])])])])])])
theorem QlS:b11=QnC++[QfP,QnV]:=rfl
theorem QpF{s:List U}{m:Nat}{a b:U}{hs:Hs}:Qa (tb s) (m+1) 11 [a,b] hs=fin (exs (tb s) (Qa (tb s) m) dd b11 [some a,some b,none,none,none,none] hs):=rfl
noncomputable def Out(hs:Hs)(M:List Nat)(q:Pl)(W:Ws)(hs':Hs):Prop:=∃c',Web hs' q c' W/\Frm hs hs' M/\TK hs hs'/\∀i∈Qs q c',i∈M\/hs.length<=i
theorem Out.of{hs hs':Hs}{q:Pl}{c c':Ct}{W:Ws}(w:Web hs' q c' W)(e:Qs q c'=Qs q c)(f:Frm hs hs' (Qs q c))(t:TK hs hs'):Out hs (Qs q c) q W hs':=⟨c',w,f,t,fun i mi=>.inl (e▸mi)⟩
theorem Out.app{hs r hs':Hs}{M:List Nat}{q:Pl}{W:Ws}(h:Out (hs++r) M q W hs'):Out hs M q W hs' :=
 let ⟨c',w,f,t,mi⟩:=h;⟨c',w,Frm.app.trans f,TK.app.trans t,fun i m=>(mi i m).imp id fun l=>by simp at l;omega⟩
section
variable {T:Tbl}{cf:Cf}{d:Nat}{hs:Hs}
theorem YA{e:E}{ρ:Rho}{h1:Hs}{u:U}(h:ev T cf d e ρ hs=some (u,h1)):ex T cf (d+1) (.expr e) ρ hs=some (.next,ρ,h1):=by rw [Zo,h,Qo]
theorem Yz{t:E}{a b:List S}{ρ:Rho}{h1:Hs}{r:Option (Fl×Rho×Hs)}{p:Prop}[Decidable p](e:evT T cf d t ρ hs=some (decide p,h1))(np:¬p)(e2:exs T cf d b ρ h1=r):ex T cf (d+1) (.ite t a b) ρ hs=r:=by
 rw [Yj,e,Qo,if_neg (by simpa using np),e2]
theorem JT{t:E}{a b:List S}{ρ:Rho}{h1:Hs}{r:Option (Fl×Rho×Hs)}{p:Prop}[Decidable p](e:evT T cf d t ρ hs=some (decide p,h1))(np:p)(e2:exs T cf d a ρ h1=r):ex T cf (d+1) (.ite t a b) ρ hs=r:=by
 rw [Yj,e,Qo,if_pos (by simpa using np),e2]
end
theorem QdD{α β:Type}{P:α->β->Prop}:∀{l:List α} {r:List β},PySem.Paired P l r->PySem.Paired P l.reverse r.reverse
 | _,_,.nil=>.nil
 | _,_,.cons h t=>by rw [List.reverse_cons,List.reverse_cons];exact QC h (QdD t)
theorem Qml{T:Tbl}{cf:Cf}{d:Nat}{a:E}{ρ:Rho}{hs:Hs}:ev T cf (d+1) (.rev a) ρ hs=bd (ev T cf d a ρ hs) fun u h1=>(match QA T u h1 with | some xs=>some (.ref h1.length,h1++[.lst xs.reverse]) | none=>none):=by rw [ev]<;>rfl
theorem QjW{T:Tbl}{cf:Cf}{d:Nat}{a b:E}{ρ:Rho}{hs:Hs}{p r:Prop}[Decidable p][Decidable r](ea:evT T cf d a ρ hs=some (decide p,hs))(eb:evT T cf d b ρ hs=some (decide r,hs)):evT T cf (d+1) (.and a b) ρ hs=some (decide (p/\r),hs):=by
 rw [JS,ea,Qo,eb];by_cases hp:p
 ·simp [hp]
 ·simp [hp]
theorem Qg9{hs:Hs}:∀{kc:List (U×Nat×List U)} {kp:List (U×List Nm)},PySem.Paired (fun(x:U×Nat×List U) (y:U×List Nm)=>x.1=y.1/\PySem.Paired (DN hs) x.2.2 y.2) kc kp->∀y∈kc,y.2.2.length<=QaL kp
 | _,_,.nil,y,m=>by simp at m
 | _,z::kp,.cons r t,y,m=>by
  have e:QaL (z::kp)=z.2.length+QaL kp:=by simp [QaL]
  rcases List.mem_cons.mp m with rfl | m
  ·have:=Qg r.2;omega
  ·have:=Qg9 t y m;omega
theorem Qfu{s:List U}{hs:Hs}{q:Pl}{c:Ct}{W:Ws}{m so:Nat}{us:List U}{nms:List Nm}{x:Int}(h:Web hs q c W)(hso:hs[so]?=some (.lst us))(np:so∉Qs q c)(dp:PySem.Paired (DN hs) us nms)(ip:IntsP W.put)(l:sz W<100000)(lu:us.length<=8):
  ∃hs' ρ',ex (tb s) (Qa (tb s) (m+2)) 92 QnV [some (.ref q.w),some (.int x 0),some (.int (x % 8) 0),some (.int (x / 8) 0),some (.ref so),none] hs=some (.next,ρ',hs')/\Out hs (Qs q c) q (Za W nms x) hs':=by
 have lz:W.given.length<100000/\W.new.length<100000/\W.off.length<100000/\W.put.length<100000/\W.kept.length<100000/\QaL W.kept<100000:=by unfold sz at l;omega
 obtain⟨lz1,lz2,lz3,lz4,lz5,lz6⟩:=lz;have eg:=Qg h.rs.gs;have en:=Qg h.rs.ns;have eo:=Qg h.rs.os;have ek:=Qg h.rs.kc
 have hw:=h.mem (p:=(q.w,.dic (QK q))) (by simp [cells])
 have hg:=h.mem (p:=(q.g,.lst c.gs)) (by simp [cells])
 have B1:c.gs.length<1000000:=eg▸Nat.lt_trans lz1 (by decide)
 have B2:c.ns.length<1000000:=en▸Nat.lt_trans lz2 (by decide)
 generalize hρ:([some (.ref q.w),some (.int x 0),some (.int (x % 8) 0),some (.int (x / 8) 0),some (.ref so),none]:Rho)=ρ
 have r0:ρ[0]?=some (some (.ref q.w)):=by rw [<-hρ];rfl
 have r2:ρ[2]?=some (some (.int (x % 8) 0)):=by rw [<-hρ];rfl
 have r3:ρ[3]?=some (some (.int (x / 8) 0)):=by rw [<-hρ];rfl
 have r4:ρ[4]?=some (some (.ref so)):=by rw [<-hρ];rfl
 -- the empty list that is compared with
 have hA:=h.app (r:=[O.lst []]);have soA:(hs++[O.lst []])[so]?=some (.lst us):=Qj hso
 have t0:evT (tb s) (Qa (tb s) (m+2)) 91 (.cmp .Eq (.var 4) (.lst [])) ρ hs=some (decide (us=[]),hs++[O.lst []]):=by
  generalize Qa (tb s) (m+2)=cf;have:=JI (T:=tb s) (e:=hs.length) soA at0;generalize tb s=T at this ⊢;simp only [QP,Q6,Qi,r4,Zs,evs,Qo,Zn,this,Option.map,Zj]
 have dA:=Qc (fun _ _=>Zh (r:=[O.lst []])) dp
 have hgA:=hA.mem (p:=(q.g,.lst c.gs)) (by simp [cells])
 have hwA:=hA.mem (p:=(q.w,.dic (QK q))) (by simp [cells])
 cases dp with
 | nil =>
  have hB:=hA.app (r:=[O.lst []])
  obtain⟨hs1,c1,g1,w1,m1,q1,q2,f1,t1⟩:=YB (s:=s) (m:=m+1) (pa:=(hs++[O.lst []]).length) (x:=x / 8) (z:=0) (ps:=[]) (nms:=[]) hB at0 (h.fresh (by simp)) .nil B1 B2
  refine⟨hs1,ρ,JT t0 rfl (Qr (YA (u:=.non) ?_)),((Out.of w1 m1 f1 t1).app).app⟩;generalize Qa (tb s) (m+1+1)=cf at g1 ⊢;generalize tb s=T at g1 ⊢;simp only [QY,evs,Qi,r0,r3,Zs,y_c,Qo,g1]
 | cons dv dr =>
  rename_i v a vs nm
  have sub0:QH (tb s) (.ref so) (.int 0 0) (hs++[O.lst []])=some v:=by simp only [QH,soA];exact Qcj (i:=0) rfl
  by_cases k2:x % 8=2
  ·have hB:=hA.pushG (Zh dv)
   have e:Za W (a::nm) x={ W with given:=W.given++[a] }:=by simp only [Za,k2,if_true]
   have rc:=Yo hgA;have ap:=Yr (T:=tb s) (u:=v) hgA B1;have sg:=s_G (T:=tb s) hwA
   refine⟨_,ρ,Yz t0 (by simp) (Qr (JT (QaP (d:=86) r2) k2 (Qr (YA (u:=.non) (h1:=(hs++[O.lst []]).set q.g (.lst (c.gs++[v]))) ?_)))),?_⟩
   ·generalize Qa (tb s) (m+2)=cf;generalize tb s=T at sub0 ap sg ⊢;simp only [Qco,Zq,Qi,r0,r4,y_c,evs,Qo,sg,Option.map,rc,if_true,sub0,ap]
   ·rw [e]
    exact(Out.of (c:=c) hB rfl (Frm.set (by simp [Qs])) (TK.set hgA (by simp))).app
  ·have n2:=QaP (T:=tb s) (cf:=Qa (tb s) (m+2)) (d:=86) (hs:=hs++[O.lst []]) (j:=2) r2
   have c3:evT (tb s) (Qa (tb s) (m+2)) 87 (.and (.cmp .Eq (.var 2) (.c (.int 3 0))) (.cmp .Eq (.op .Mod (.op .FloorDiv (.var 3) (.c (.int 3 0))) (.c (.int 2 0))) (.c (.int 1 0)))) ρ (hs++[O.lst []])=some (decide (x % 8=3/\x / 8 / 3 % 2=1),hs++[O.lst []]):=by
    refine QjW (QaP (d:=83) r2) ?_;generalize Qa (tb s) (m+2)=cf;generalize tb s=T
    simp only [QP,Q6,Yi,Qi,r3,y_c,Qo,opU,dv3,md (show(0:Int) < 2 by decide),Option.map,Zn,eq_int,Zj]
   by_cases k3:x % 8=3/\x / 8 / 3 % 2=1
   ·have hB:=hA.app (r:=[O.lst (v::vs).reverse])
    obtain⟨hs1,c1,g1,w1,m1,q1,q2,f1,t1⟩:=YB (s:=s) (m:=m+1) (pa:=(hs++[O.lst []]).length) (x:=x / 8 / 6) (z:=0) hB at0 (h.fresh (by simp)) (QdD (Qc (fun _ _=>Zh) dA)) B1 B2
    have e:Za W (a::nm) x=Q8 W (a::nm).reverse (x / 8 / 6) 0:=by simp only [Za];rw [if_neg k2,if_pos k3]
    have lv:QA (tb s) (.ref so) (hs++[O.lst []])=some (v::vs):=by simp only [QA,soA]
    refine⟨hs1,ρ,Yz t0 (by simp) (Qr (Yz n2 k2 (Qr (JT c3 k3 (Qr (YA (u:=.non) ?_)))))),e▸((Out.of w1 m1 f1 t1).app).app⟩
    generalize Qa (tb s) (m+1+1)=cf at g1 ⊢;generalize tb s=T at g1 lv ⊢
    simp only [QY,evs,Qi,r0,r3,r4,Qml,lv,Yi,y_c,Qo,opU,dvj (show(decide ((0:Int) < 6)&&decide ((6:Int) < 1606938044258990275541962092341162602522202993782792835301376))=true by decide),Option.map,g1]
   ·have n4:=QaP (T:=tb s) (cf:=Qa (tb s) (m+2)) (d:=82) (hs:=hs++[O.lst []]) (j:=4) r2;by_cases k4:x % 8=4
    ·have m3:0<=2+x / 8 % 3:=by have:=Int.emod_nonneg (x / 8) (show(3:Int)≠0 by decide);omega
     have m3':2+x / 8 % 3<=5:=by have:=Int.emod_lt_of_pos (x / 8) (show(0:Int) < 3 by decide);omega
     obtain⟨hs1,c1,ρ',g1,w1,m1,f1,t1⟩:=Qd8 (s:=s) (m:=m+1) (d:=63) (x:=x) (y:=x / 8) (k:=x % 8) (N:=(2+x / 8 % 3).toNat) (2+x / 8 % 3).toNat 0 (o:=none) (by omega) hA soA np dA (by omega) (by omega)
     have e:Za W (a::nm) x=gvN W (a::nm) (x / 8 / 3) 0 (2+x / 8 % 3).toNat:=by simp only [Za];rw [if_neg k2,if_neg k3,if_pos k4]
     have v4:ev (tb s) (Qa (tb s) (m+2)) 83 (.op .Add (.c (.int 2 0)) (.op .Mod (.var 3) (.c (.int 3 0)))) ρ (hs++[O.lst []])=some (.int (((2+x / 8 % 3).toNat:Nat):Int) 0,hs++[O.lst []]):=by
      rw [Int.toNat_of_nonneg m3];generalize Qa (tb s) (m+2)=cf;generalize tb s=T
      simp only [Yi,Qi,r3,y_c,Qo,opU,Qc0,gz,md (show(0:Int) < 3 by decide),Option.map]
     refine⟨hs1,ρ',Yz t0 (by simp) (Qr (Yz n2 k2 (Qr (Yz c3 k3 (Qr (JT n4 k4 (Qr (ZF (YC v4 (by omega)) ?_)))))))),e▸(Out.of w1 m1 f1 t1).app⟩
     rw [<-hρ];exact g1
    ·have n6:=QaP (T:=tb s) (cf:=Qa (tb s) (m+2)) (d:=80) (hs:=hs++[O.lst []]) (j:=6) r2;by_cases k6:x % 8=6
     ·obtain⟨hs1,c1,g1,w1,f1,t1,mi⟩:=Qmq (s:=s) (m:=m+1) (x:=x / 8) hA (Zh dv) ip (by omega) (by omega) (by omega) (fun y my=>by
       have:=Qg9 hA.rs.kc y my
       omega)
      have e:Za W (a::nm) x=Zu W a (x / 8):=by simp only [Za];rw [if_neg k2,if_neg k3,if_neg k4,if_pos k6]
      refine⟨hs1,ρ,Yz t0 (by simp) (Qr (Yz n2 k2 (Qr (Yz c3 k3 (Qr (Yz n4 k4 (Qr (JT n6 k6 (Qr (YA (u:=.non) ?_)))))))))),e▸Out.app (r:=[O.lst []]) ⟨c1,w1,f1,t1,mi⟩⟩
      generalize Qa (tb s) (m+1+1)=cf at g1 ⊢;generalize tb s=T at g1 sub0 ⊢;simp only [QY,evs,Qi,r0,r3,r4,Zq,y_c,Qo,sub0,Option.map,g1]
     ·have c7:evT (tb s) (Qa (tb s) (m+2)) 81 (.and (.cmp .Eq (.var 2) (.c (.int 7 0))) (.cmp .Gt (.bi .len [(.var 4)]) (.c (.int 1 0)))) ρ (hs++[O.lst []])=some (decide (x % 8=7/\1<(a::nm).length),hs++[O.lst []]):=by
       refine QjW (QaP (d:=77) r2) ?_;have ll:=Zb (T:=tb s) soA;have el:=Qg dA
       have:decide ((1:Int) < ((v::vs).length:Int))=decide (1<(a::nm).length):=by rw [el];simp only [decide_eq_decide];omega
       generalize Qa (tb s) (m+2)=cf;generalize tb s=T at ll ⊢;simp only [QP,Q6,Yy,evs,Qi,r4,y_c,Qo,ll,Option.map,Zn,Zj,this]
      by_cases k7:x % 8=7/\1<(a::nm).length
      ·obtain⟨hs1,c1,g1,w1,m1,f1,t1⟩:=Qc4 (s:=s) (m:=m) (x:=x / 8) hA soA np dA (by omega) (by omega)
       have e:Za W (a::nm) x=ZM W (a::nm) (x / 8):=by simp only [Za];rw [if_neg k2,if_neg k3,if_neg k4,if_neg k6,if_pos k7]
       refine⟨hs1,ρ,Yz t0 (by simp) (Qr (Yz n2 k2 (Qr (Yz c3 k3 (Qr (Yz n4 k4 (Qr (Yz n6 k6 (Qr (JT c7 k7 (Qr (YA (u:=.non) ?_)))))))))))),e▸(Out.of w1 m1 f1 t1).app⟩
       generalize Qa (tb s) (m+2)=cf at g1 ⊢;generalize tb s=T at g1 ⊢;simp only [QY,evs,Qi,r0,r3,r4,Qo,g1]
      ·obtain⟨hs1,c1,g1,w1,m1,q1,q2,f1,t1⟩:=YB (s:=s) (m:=m+1) (x:=x / 8 / 6) (z:=0) hA soA np dA B1 B2
       have e:Za W (a::nm) x=Q8 W (a::nm) (x / 8 / 6) 0:=by simp only [Za];rw [if_neg k2,if_neg k3,if_neg k4,if_neg k6,if_neg k7]
       refine⟨hs1,ρ,Yz t0 (by simp) (Qr (Yz n2 k2 (Qr (Yz c3 k3 (Qr (Yz n4 k4 (Qr (Yz n6 k6 (Qr (Yz c7 k7 (Qr (YA (u:=.non) ?_)))))))))))),e▸(Out.of w1 m1 f1 t1).app⟩
       generalize Qa (tb s) (m+1+1)=cf at g1 ⊢;generalize tb s=T at g1 ⊢
       simp only [QY,evs,Qi,r0,r3,r4,Yi,y_c,Qo,opU,dvj (show(decide ((0:Int) < 6)&&decide ((6:Int) < 1606938044258990275541962092341162602522202993782792835301376))=true by decide),Option.map,g1]
theorem QjJ{s:List U}{hs:Hs}{q:Pl}{c:Ct}{W:Ws}{m:Nat}{x:Int}(h:Web hs q c W)(ok:Ok W)(l:sz W<100000):
  ∃hs' li,Qa (tb s) (m+3) 11 [.ref q.w,.int x 0] hs=some (.non,hs')/\Out hs (Qs q c) { q with l:=li } (step W x) hs':=by
 have hw:=h.mem (p:=(q.w,.dic (QK q))) (by simp [cells])
 have hl:=h.rs.hl;obtain⟨r,so,H1,H2,H3⟩:=QhO (T:=tb s) (cf:=Qa (tb s) (m+2)) (d:=70) (x:=x) (rest:=[QfP,QnV]) hw hl;have hR:=h.app (r:=r)
 have lr:hs.length<=(hs++r).length:=by simp
 have nso:so∉Qs q c:=h.fresh H3
 have P:=Qj3 (T:=tb s) (cf:=Qa (tb s) (m+2)) (d:=73) (ρ:=[some (.ref q.w),some (.int x 0),some (.int (x % 8) 0),some (.int (x / 8) 0),some (.ref so),none]) rfl rfl (Qj hw) (Qj hl) H2 (by rw [List.length_take];omega)
 have hS:=hR.app (r:=[O.lst (c.ls.drop (c.ls.take (Q4 x)).length)]);have pl:=h.rs.ls;have el:(c.ls.take (Q4 x)).length=(W.left.take (Q4 x)).length:=Qg (ZU (Q4 x) pl)
 have hL:=hS.setL (i:=(hs++r).length) (nms:=W.left.drop (W.left.take (Q4 x)).length) at0 (h.fresh lr) (by rw [el];exact Yw _ (Qc (fun _ _=>DN.mono (TK.app.trans TK.app)) pl))
 have tL:TK hs ((hs++r++[O.lst (c.ls.drop (c.ls.take (Q4 x)).length)]).set q.w (.dic (QK { q with l:=(hs++r).length }))):=TK.app.trans (TK.app.trans (TK.set (Qj (Qj hw)) (by simp)))
 have fL:Frm (hs++r) ((hs++r++[O.lst (c.ls.drop (c.ls.take (Q4 x)).length)]).set q.w (.dic (QK { q with l:=(hs++r).length }))) (Qs q c):=Frm.app.trans (Frm.set (by simp [Qs]))
 have sL:=fL so _ H2 nso;have dL:=Qc (fun _ _=>DN.mono tL) (ZU (Q4 x) pl)
 have lL:hs.length<=((hs++r++[O.lst (c.ls.drop (c.ls.take (Q4 x)).length)]).set q.w (.dic (QK { q with l:=(hs++r).length }))).length:=by simp
 have lt:=Jw x
 have ls:sz (Y2 W x) < 100000:=by unfold sz Y2;unfold sz at l;simp only [List.length_drop];omega
 obtain⟨hs',ρ',E,c',w,f,t,mi⟩:=Qfu (s:=s) (m:=m) (x:=x) hL sL nso dL ok.ip ls (by rw [List.length_take];omega)
 refine⟨hs',(hs++r).length,?_,c',w,Frm.app.trans (fL.trans f),tL.trans t,fun i m=>(mi i m).imp id fun k=>Nat.le_trans lL k⟩;rw [QpF,QlS];show fin (exs (tb s) (Qa (tb s) (m+2)) (70+30) _ _ hs)=_;rw [H1,Qn P,Qn E,Q3];rfl
theorem QhE{a b:List (List Lp)}:szR (a++b)=szR a+szR b:=by simp [szR]
theorem ZR{W:Ws}{nms:List Nm}{x z:Int}:sz (Q8 W nms x z)=sz W+2:=by simp [sz,Q8];omega
theorem QgM{nms:List Nm}{y:Int}:∀(m i:Nat) (W:Ws),sz (gvN W nms y i m)=sz W+2*m
 | 0,i,W=>rfl
 | m+1,i,W=>by rw [gvN,QgM m (i+1),ZR];omega
theorem QbC{x z:Int}:∀(nms:List Nm) (W:Ws),sz (QI W nms x z)=sz W+2*nms.length
 | [],W=>rfl
 | a::r,W=>by
  have e:QI W (a::r) x z=QI (Q8 W [a] x z) r x z:=rfl;rw [e,QbC r,ZR,List.length_cons];omega
theorem Qdk{W:Ws}(h:W.left=[]):sz (Q1 W)=sz W+1:=by
 simp only [sz,Q1,QhE,List.length_append,List.length_nil,List.length_singleton,h];simp only [szR,List.map_cons,List.map_nil,List.sum_cons,List.sum_nil];omega
theorem Qar(k:U)(a:Nm):∀kp:List (U×List Nm),QaL (Zv kp k a)=QaL kp+1/\(Zv kp k a).length<=kp.length+1
 | []=>⟨rfl,Nat.le_refl _⟩
 | (k',l)::r=>by
  have ih:=Qar k a r;unfold Zv;split
  ·constructor
   ·simp [QaL];omega
   ·simp
  ·constructor
   ·have:=ih.1;simp only [QaL,List.map_cons,List.sum_cons]at this ⊢;omega
   ·have:=ih.2;simp only [List.length_cons];omega
theorem QfO{kvs:List (U×U)}{k v:U}:(ZJ kvs k v).length<=kvs.length+1:=by unfold ZJ;split<;>simp
theorem Qj1{W:Ws}{a:Nm}{x:Int}:sz (Zu W a x)<=sz W+3:=by
 unfold Zu;split
 ·have h1:=Qar (kpU x) a W.kept;have h2:=QfO (kvs:=W.put) (k:=kpU x) (v:=.int W.rows.length 0);simp only [sz];omega
 ·simp [sz];omega
theorem Qcu{W:Ws}{nms:List Nm}{x:Int}:sz (ZM W nms x)=sz W+2*nms.length:=by
 unfold ZM;rw [QbC,QbC,List.length_drop,List.length_take];omega
theorem QfE{W:Ws}{nms:List Nm}{x:Int}(l:nms.length<=8):sz (Za W nms x)<=sz W+16:=by
 cases nms with
 | nil=>simp only [Za];rw [ZR];omega
 | cons a r =>
  simp only [Za]
  have m3:=Int.emod_lt_of_pos (x / 8) (show(0:Int) < 3 by decide)
  split
  ·simp [sz];omega
  ·split
   ·rw [ZR];omega
   ·split
    ·rw [QgM];omega
    ·split
     ·have:=Qj1 (W:=W) (a:=a) (x:=x / 8);omega
     ·split
      ·rw [Qcu];omega
      ·rw [ZR];omega
theorem QhD{W:Ws}{x:Int}:sz (step W x)<=sz W+16:=by
 have lt:=Jw x
 have h1:=QfE (W:=Y2 W x) (nms:=W.left.take (Q4 x)) (x:=x) (by rw [List.length_take];omega)
 have h2:sz (Y2 W x)<=sz W:=by simp only [sz,Y2,List.length_drop];omega
 unfold step;omega
theorem Qdj{W:Ws}{x:Int}:sz (YK W x)<=sz W+8:=by
 have:=Qad W x;unfold YK;rw [QbC];omega
structure Same(W W':Ws):Prop where
 put:W'.put=W.put
 kept:W'.kept=W.kept
 off:W'.off=W.off
theorem Same.refl{W:Ws}:Same W W:=⟨rfl,rfl,rfl⟩
theorem Same.trans{a b c:Ws}(h:Same a b)(h':Same b c):Same a c:=⟨h'.put.trans h.put,h'.kept.trans h.kept,h'.off.trans h.off⟩
theorem same_gives{W:Ws}{nms:List Nm}{x z:Int}:Same W (Q8 W nms x z):=⟨rfl,rfl,rfl⟩
theorem QbG{nms:List Nm}{y:Int}:∀(m i:Nat) (W:Ws),Same W (gvN W nms y i m)
 | 0,i,W=>Same.refl
 | m+1,i,W=>same_gives.trans (QbG m (i+1) _)
theorem Yv{x z:Int}:∀(nms:List Nm) (W:Ws),Same W (QI W nms x z)
 | [],W=>Same.refl
 | a::r,W=>same_gives.trans (Yv r (Q8 W [a] x z))
theorem Ok.same{W W':Ws}(h:Ok W)(e:Same W W'):Ok W':=⟨e.put▸h.ip,e.kept▸h.kn,e.kept▸h.kk⟩
theorem Yd(k:U)(a:Nm):∀kp:List (U×List Nm),(Zv kp k a).map (·.1)=if k∈kp.map (·.1)then kp.map (·.1)else kp.map (·.1)++[k]
 | []=>by simp [Zv]
 | (k',l)::r=>by
  have ih:=Yd k a r;unfold Zv;by_cases e:k'=k
  ·simp [e]
  ·have e':¬k=k':=fun z=>e z.symm;simp only [e,if_false,List.map_cons,ih,List.mem_cons,e',false_or];split<;>rfl
theorem Ok.put{W:Ws}{a:Nm}{x:Int}(h:Ok W):Ok (Zu W a x):=by
 unfold Zu;split
 ·refine⟨h.ip.put,?_,?_⟩
  ·show((Zv W.kept (kpU x) a).map (·.1)).Nodup;rw [Yd];split
   ·exact h.kn
   ·rename_i nm
    refine List.nodup_append.mpr ⟨h.kn,by simp,fun u mu w mw=>?_⟩
    rw [List.mem_singleton.mp mw];exact fun z=>nm (z▸mu)
  ·intro p mp;have:p.1∈(Zv W.kept (kpU x) a).map (·.1):=List.mem_map.mpr ⟨p,mp,rfl⟩;rw [Yd]at this
   have hin:∀u∈W.kept.map (·.1),Y6 u=true:=fun u mu=>by
    obtain⟨p',mp',rfl⟩:=List.mem_map.mp mu;exact h.kk p' mp'
   split at this
   ·exact hin _ this
   ·rcases List.mem_append.mp this with k | k
    ·exact hin _ k
    ·rw [List.mem_singleton.mp k];rfl
 ·exact⟨h.ip,h.kn,h.kk⟩
theorem Qiz{W:Ws}{a:Nm}{x:Int}:(Zu W a x).off.length<=W.off.length+1:=by
 unfold Zu;split
 ·exact Nat.le_succ _
 ·simp
theorem QhM{W:Ws}{x:Int}(h:Ok W):Ok (step W x)/\(step W x).off.length<=W.off.length+1:=by
 have hs:Ok (Y2 W x):=⟨h.ip,h.kn,h.kk⟩;have eo:(Y2 W x).off=W.off:=rfl
 have sm:∀{W':Ws},Same (Y2 W x) W'->Ok W'/\W'.off.length<=W.off.length+1:=fun e=>⟨hs.same e,by rw [e.off,eo];omega⟩
 unfold step
 cases W.left.take (Q4 x)with
 | nil=>simp only [Za];exact sm same_gives
 | cons a r =>
  simp only [Za];split
  ·exact sm ⟨rfl,rfl,rfl⟩
  ·split
   ·exact sm same_gives
   ·split
    ·exact sm (QbG _ _ _)
    ·split
     ·exact⟨hs.put,Qiz⟩
     ·split
      ·exact sm ((Yv _ _).trans (Yv _ _))
      ·exact sm same_gives
noncomputable def St(P:Nat->O->Prop)(hs:Hs)(w:Nat)(W:Ws):Prop:=∃q c,Web hs q c W/\q.w=w/\∀p o,P p o->hs[p]?=some o/\p∉Qs q c
theorem Jz{P:Nat->O->Prop}{hs hs':Hs}{M M':List Nat}(h:∀p o,P p o->hs[p]?=some o/\p∉M)(f:Frm hs hs' M)(m:∀i∈M',i∈M\/hs.length<=i):∀p o,P p o->hs'[p]?=some o/\p∉M':=fun p o e=>by
 obtain⟨a,b⟩:=h p o e;refine⟨f p o a b,fun z=>?_⟩;have:=(List.getElem?_eq_some_iff.mp a).1
 rcases m p z with k | k
 ·exact b k
 ·omega
theorem St.app{P:Nat->O->Prop}{hs r:Hs}{w:Nat}{W:Ws}(h:St P hs w W):St P (hs++r) w W:=let ⟨q,c,h,e,k⟩:=h;⟨q,c,h.app,e,Jz k Frm.app fun i m=>.inl m⟩
theorem St.rend{s:List U}{P:Nat->O->Prop}{hs:Hs}{w m:Nat}{W:Ws}(h:St P hs w W)(l:sz W<100000):∃hs',Qa (tb s) (m+1) 7 [.ref w] hs=some (.non,hs')/\St P hs' w (Q1 W):=by
 obtain⟨q,c,h,rfl,k⟩:=h;have er:=Qg h.rs.rr
 obtain⟨g,w1,f,t⟩:=Qms (s:=s) (m:=_) h (by unfold sz at l;omega)
 refine⟨_,g,QeG q hs,Qfl q c,w1,rfl,Jz k f fun i mi=>?_⟩;simp only [Qs,QeG,Qfl,List.cons_append,List.nil_append,List.mem_cons]at mi
 rcases mi with mi | mi | mi | mi | mi | mi | mi | mi
 ·exact .inl (by simp [Qs,mi])
 ·exact .inl (by simp [Qs,mi])
 ·exact .inr (by omega)
 ·exact .inr (by omega)
 ·exact .inl (by simp [Qs,mi])
 ·exact .inl (by simp [Qs,mi])
 ·exact .inl (by simp [Qs,mi])
 ·exact .inl (by simp only [Qs];exact List.mem_append_right _ mi)
theorem St.pick{s:List U}{P:Nat->O->Prop}{hs:Hs}{w m:Nat}{W:Ws}{x:Int}(h:St P hs w W)(ok:Ok W)(l:sz W<100000):∃hs',Qa (tb s) (m+1) 9 [.ref w,.int x 0] hs=some (.non,hs')/\St P hs' w (YK W x):=by
 obtain⟨q,c,h,rfl,k⟩:=h;obtain⟨hs',c',g,w1,e,f,t⟩:=Qft (s:=s) (m:=_) (x:=x) h ok l;exact⟨hs',g,q,c',w1,rfl,Jz k f fun i mi=>.inl (e▸mi)⟩
theorem St.step{s:List U}{P:Nat->O->Prop}{hs:Hs}{w m:Nat}{W:Ws}{x:Int}(h:St P hs w W)(ok:Ok W)(l:sz W<100000):∃hs',Qa (tb s) (m+3) 11 [.ref w,.int x 0] hs=some (.non,hs')/\St P hs' w (step W x):=by
 obtain⟨q,c,h,rfl,k⟩:=h;obtain⟨hs',li,g,c',w1,f,t,mi⟩:=QjJ (s:=s) (m:=_) (x:=x) h ok l;exact⟨hs',g,{ q with l:=li },c',w1,rfl,Jz k f mi⟩
theorem St.left{T:Tbl}{P:Nat->O->Prop}{hs:Hs}{w:Nat}{W:Ws}(h:St P hs w W):∃p us,QH T (.ref w) (.str [108,101,102,116]) hs=some (.ref p)/\hs[p]?=some (.lst us)/\(us=[]↔W.left=[]):=by
 obtain⟨q,c,h,rfl,k⟩:=h
 have hw:=h.mem (p:=(q.w,.dic (QK q))) (by simp [cells])
 have e:=Qg h.rs.ls
 exact⟨q.l,c.ls,s_L hw,h.rs.hl,by rw [<-List.length_eq_zero_iff,e,List.length_eq_zero_iff]⟩
theorem St.given{T:Tbl}{P:Nat->O->Prop}{hs:Hs}{w:Nat}{W:Ws}(h:St P hs w W):∃p us,QH T (.ref w) (.str [103,105,118,101,110]) hs=some (.ref p)/\hs[p]?=some (.lst us)/\(us=[]↔W.given=[]):=by
 obtain⟨q,c,h,rfl,k⟩:=h
 have hw:=h.mem (p:=(q.w,.dic (QK q))) (by simp [cells])
 have hg:=h.mem (p:=(q.g,.lst c.gs)) (by simp [cells])
 have e:=Qg h.rs.gs
 exact⟨q.g,c.gs,s_G hw,hg,by rw [<-List.length_eq_zero_iff,e,List.length_eq_zero_iff]⟩
section
variable {T:Tbl}{cf:Cf}{d:Nat}{hs:Hs}{ρ:Rho}{w:Nat}{W:Ws}
theorem QhA{key:List Nat}{p:Nat}{us:List U}{X:Prop}[Decidable X](h2:ρ[2]?=some (some (.ref w)))(hs1:QH T (.ref w) (.str key) hs=some (.ref p))(hp:hs[p]?=some (.lst us))(e:us=[]↔X):evT T cf (d+8) (.cmp .Eq (.ix (.var 2) (.c (.str key))) (.lst [])) ρ hs=some (decide X,hs++[O.lst []]):=by
 have:=JI (T:=T) (e:=hs.length) (Qj (r:=[O.lst []]) hp) at0
 have e2:decide (us=[])=decide X:=by simp only [decide_eq_decide];exact e
 simp only [QP,Q6,Zq,Qi,h2,y_c,Zs,evs,Qo,hs1,Zn,this,Option.map,Zj,e2]
theorem QjV{key:List Nat}{p:Nat}{us:List U}{X:Prop}[Decidable X](h2:ρ[2]?=some (some (.ref w)))(hs1:QH T (.ref w) (.str key) hs=some (.ref p))(hp:hs[p]?=some (.lst us))(e:us=[]↔X):evT T cf (d+8) (.cmp .NotEq (.ix (.var 2) (.c (.str key))) (.lst [])) ρ hs=some (decide (¬X),hs++[O.lst []]):=by
 have:=JI (T:=T) (e:=hs.length) (Qj (r:=[O.lst []]) hp) at0
 have e2:decide (us=[])=decide X:=by simp only [decide_eq_decide];exact e
 have e3:(!decide X)=decide (¬X):=by by_cases hX:X<;>simp [hX]
 simp only [QP,Q6,Zq,Qi,h2,y_c,Zs,evs,Qo,hs1,Zn,this,Option.map,Zj,e2,e3]
theorem Qdi{a b:E}{p r:Prop}[Decidable p][Decidable r]{z1:Hs}(ea:evT T cf d a ρ hs=some (decide p,hs++z1))(eb:∃z2,evT T cf d b ρ (hs++z1)=some (decide r,hs++z1++z2)):∃z,evT T cf (d+1) (.and a b) ρ hs=some (decide (p/\r),hs++z):=by
 obtain⟨z2,eb⟩:=eb;by_cases hp:p
 ·refine⟨z1++z2,?_⟩;rw [JS,ea,Qo,eb];simp [hp]
 ·refine⟨z1,?_⟩;rw [JS,ea,Qo];simp [hp]
end
instance:DecidableEq Nm:=inferInstanceAs (DecidableEq (Int×Int))
noncomputable def ZH(W:Ws)(x:Int):Ws:=if W.left=[]/\W.given=[]/\x % 16<8 then YK (Q1 W) (x / 16)else W
noncomputable def Y1(W:Ws):Ws:=if W.left=[]/\¬W.given=[]then Q1 W else W
noncomputable def turn(W:Ws)(x:Int):Ws:=step (Y1 (ZH W x)) x
theorem same_end{W:Ws}:Same W (Q1 W):=⟨rfl,rfl,rfl⟩
theorem Qbz{W:Ws}{x:Int}:Same W (ZH W x)/\sz (ZH W x)<=sz W+9:=by
 unfold ZH;split
 ·rename_i h;have h1:=Qdk h.1;have h2:=Qdj (W:=Q1 W) (x:=x / 16)
  exact⟨same_end.trans (Yv _ _),by omega⟩
 ·exact⟨Same.refl,by omega⟩
theorem Qby{W:Ws}:Same W (Y1 W)/\sz (Y1 W)<=sz W+1:=by
 unfold Y1;split
 ·rename_i h;have h1:=Qdk h.1
  exact⟨same_end,by omega⟩
 ·exact⟨Same.refl,by omega⟩
theorem Qc8{W:Ws}{x:Int}(h:Ok W):Ok (turn W x)/\sz (turn W x)<=sz W+26/\(turn W x).off.length<=W.off.length+1:=by
 have a:=Qbz (W:=W) (x:=x);have b:=Qby (W:=ZH W x);have e:=a.1.trans b.1;have c:=QhM (x:=x) (h.same e);have d:=QhD (W:=Y1 (ZH W x)) (x:=x)
 refine⟨c.1,by unfold turn;omega,?_⟩
 have:=c.2;rw [e.off]at this;exact this
noncomputable def bdW:List S:=[(.ite (.and (.cmp .Eq (.ix (.var 2) (.c (.str [108,101,102,116]))) (.lst [])) (.and (.cmp .Eq (.ix (.var 2) (.c (.str [103,105,118,101,110]))) (.lst [])) (.cmp .Lt (.op .Mod (.var 3) (.c (.int 16 0))) (.c (.int 8 0))))) [(.expr (.call 7 [(.var 2)])),(.expr (.call 9 [(.var 2),(.op .FloorDiv (.var 3) (.c (.int 16 0)))]))] []),(.ite (.and (.cmp .Eq (.ix (.var 2) (.c (.str [108,101,102,116]))) (.lst [])) (.cmp .NotEq (.ix (.var 2) (.c (.str [103,105,118,101,110]))) (.lst []))) [(.expr (.call 7 [(.var 2)]))] []),(.expr (.call 11 [(.var 2),(.var 3)]))]
theorem QjI{s:List U}{P:Nat->O->Prop}{hs:Hs}{w m d:Nat}{W:Ws}{x:Int}{ρ:Rho}(h:St P hs w W)(ok:Ok W)(l:sz W<90000)(r2:ρ[2]?=some (some (.ref w)))(r3:ρ[3]?=some (some (.int x 0))):
  ∃hs',exs (tb s) (Qa (tb s) (m+3)) (d+30) bdW ρ hs=some (.next,ρ,hs')/\St P hs' w (turn W x):=by
 -- the first test
 have T1:∃hs1,ex (tb s) (Qa (tb s) (m+3)) (d+29) (.ite (.and (.cmp .Eq (.ix (.var 2) (.c (.str [108,101,102,116]))) (.lst [])) (.and (.cmp .Eq (.ix (.var 2) (.c (.str [103,105,118,101,110]))) (.lst [])) (.cmp .Lt (.op .Mod (.var 3) (.c (.int 16 0))) (.c (.int 8 0))))) [(.expr (.call 7 [(.var 2)])),(.expr (.call 9 [(.var 2),(.op .FloorDiv (.var 3) (.c (.int 16 0)))]))] []) ρ hs=some (.next,ρ,hs1)/\St P hs1 w (ZH W x):=by
  obtain⟨p1,u1,s1,q1,e1⟩:=h.left (T:=tb s);obtain⟨p2,u2,s2,q2,e2⟩:=(h.app (r:=[O.lst []])).given (T:=tb s)
  obtain⟨z,tz⟩:=Qdi (cf:=Qa (tb s) (m+3)) (d:=d+27) (QhA (d:=d+19) r2 s1 q1 e1) (Qdi (d:=d+26) (b:=.cmp .Lt (.op .Mod (.var 3) (.c (.int 16 0))) (.c (.int 8 0))) (r:=x % 16<8) (QhA (d:=d+18) r2 s2 q2 e2) ⟨[],by
   generalize Qa (tb s) (m+3)=cf;generalize tb s=T
   simp only [QP,Q6,Yi,Qi,r3,y_c,Qo,opU,md (show(0:Int) < 16 by decide),Option.map,Zn,Zj,List.append_nil]⟩)
  by_cases hp:W.left=[]/\W.given=[]/\x % 16<8
  ·obtain⟨hs2,g2,st2⟩:=(h.app (r:=z)).rend (s:=s) (m:=m+2) (by omega)
   have le:=Qdk hp.1
   obtain⟨hs3,g3,st3⟩:=st2.pick (s:=s) (m:=m+2) (x:=x / 16) (ok.same same_end) (by omega)
   refine⟨hs3,JT tz hp ?_,?_⟩
   ·generalize Qa (tb s) (m+2+1)=cf at g2 g3 ⊢;generalize tb s=T at g2 g3 ⊢;have a1:ex T cf (d+27) (.expr (.call 7 [(.var 2)])) ρ (hs++z)=some (.next,ρ,hs2):=YA (JY r2 g2)
    have a2:ex T cf (d+26) (.expr (.call 9 [(.var 2),(.op .FloorDiv (.var 3) (.c (.int 16 0)))])) ρ hs2=some (.next,ρ,hs3):=YA (u:=.non) (by
     simp only [QY,evs,Qi,r2,r3,Yi,y_c,Qo,opU,dvj (show(decide ((0:Int) < 16)&&decide ((16:Int) < 1606938044258990275541962092341162602522202993782792835301376))=true by decide),Option.map,g3])
    rw [Qn a1,Qn a2,Q3]
   ·unfold ZH;rw [if_pos hp];exact st3
  ·refine⟨hs++z,Yz tz hp Q3,?_⟩;unfold ZH;rw [if_neg hp];exact h.app
 obtain⟨hs1,g1,st1⟩:=T1;have a:=Qbz (W:=W) (x:=x)
 have T2:∃hs2,ex (tb s) (Qa (tb s) (m+3)) (d+28) (.ite (.and (.cmp .Eq (.ix (.var 2) (.c (.str [108,101,102,116]))) (.lst [])) (.cmp .NotEq (.ix (.var 2) (.c (.str [103,105,118,101,110]))) (.lst []))) [(.expr (.call 7 [(.var 2)]))] []) ρ hs1=some (.next,ρ,hs2)/\St P hs2 w (Y1 (ZH W x)):=by
  generalize ZH W x=W1 at st1 a ⊢;obtain⟨p1,u1,s1,q1,e1⟩:=st1.left (T:=tb s);obtain⟨p2,u2,s2,q2,e2⟩:=(st1.app (r:=[O.lst []])).given (T:=tb s);obtain⟨z,tz⟩:=Qdi (cf:=Qa (tb s) (m+3)) (d:=d+26) (QhA (d:=d+18) r2 s1 q1 e1) ⟨_,QjV (d:=d+18) r2 s2 q2 e2⟩;by_cases hp:W1.left=[]/\¬W1.given=[]
  ·obtain⟨hs2,g2,st2⟩:=(st1.app (r:=z)).rend (s:=s) (m:=m+2) (by omega)
   refine⟨hs2,JT tz hp ?_,?_⟩
   ·generalize Qa (tb s) (m+2+1)=cf at g2 ⊢;generalize tb s=T at g2 ⊢;exact Qr (YA (JY r2 g2))
   ·unfold Y1;rw [if_pos hp];exact st2
  ·refine⟨hs1++z,Yz tz hp Q3,?_⟩;unfold Y1;rw [if_neg hp];exact st1.app
 obtain⟨hs2,g2,st2⟩:=T2;have b:=Qby (W:=ZH W x)
 obtain⟨hs3,g3,st3⟩:=st2.step (s:=s) (m:=m) (x:=x) (ok.same (a.1.trans b.1)) (by omega)
 refine⟨hs3,?_,st3⟩
 have a3:ex (tb s) (Qa (tb s) (m+3)) (d+27) (.expr (.call 11 [(.var 2),(.var 3)])) ρ hs2=some (.next,ρ,hs3):=by
  generalize Qa (tb s) (m+3)=cf at g3 ⊢;generalize tb s=T at g3 ⊢
  exact YA (u:=.non) (by simp only [QY,evs,Qi,r2,r3,Qo,g3])
 unfold bdW;rw [Qn g1,Qn g2,Qn a3,Q3]
noncomputable def c0(ns:List Int):Int:=ns.getD 0 0
theorem cl1{s:List U}{m:Nat}{a b:U}{hs:Hs}:Qa (tb s) (m+1) 2 [a,b] hs=fin (exs (tb s) (Qa (tb s) m) dd b2 [some a,some b] hs):=rfl
theorem Qjh{ns:List Int}{m:Nat}{hs:Hs}:Qa (tb (ns.map fun n=>U.int n 0)) (m+1) 2 [.scr,.int 0 0] hs=some (.int (c0 ns) 0,hs):=by
 rw [cl1]
 have l:biU (tb (ns.map fun n=>U.int n 0)) .len [.scr] hs=some (.int ns.length 0,hs):=by
  show some (U.int ((ns.map fun n=>U.int n 0).length:Nat) 0,hs)=_;rw [List.length_map]
 cases ns with
 | nil =>
  generalize Qa _ m=cf;generalize tb (([]:List Int).map fun n=>U.int n 0)=T at l ⊢;simp [b2,dd,QL,Yj,QP,Q6,Qi,Yy,evs,Qo,l,Zn,Zj,Q3,Qfm,y_c,fin,c0]
 | cons a r =>
  have g:QH (tb ((a::r).map fun n=>U.int n 0)) .scr (.int 0 0) hs=some (.int a 0):=by
   show(match ZN (tb ((a::r).map fun n=>U.int n 0)) .scr hs with | some xs=>atU xs 0 | none=>none)=_
   exact Qcj (i:=0) rfl
  generalize Qa _ m=cf;generalize tb ((a::r).map fun n=>U.int n 0)=T at l g ⊢
  have p:decide ((0:Int) < ((a::r).length:Int))=true:=by simp
  simp only [b2,dd,QL,Yj,QP,Q6,Qi,Yy,evs,Qo,l,Zn,Zj,Qfm,Zq,g,fin,c0,List.getElem?_cons_zero,List.getElem?_cons_succ,p,Option.map,if_true,List.getD_cons_zero]
noncomputable def lp0:Lp:=⟨[],0,0⟩
theorem QeU{T:Tbl}{cf:Cf}{d N:Nat}{ρ:Rho}:∀(m i:Nat) (acc:List U) (lps:List Lp) (hs:Hs),i+m=N->acc.length+m<=1000000->PySem.Paired (DL hs) acc lps ->
  ∃z us,QQ T (ev T cf (d+10)) (Z4 (evT T cf (d+10)) none) (.rng 0 N) false (.tup [(.tup []),(.c (.int 0 0)),(.c (.int 0 0))]) ρ (m+1) i acc hs=some (us,hs++z)/\PySem.Paired (DL (hs++z)) us (lps++List.replicate m lp0):=by
 intro m
 induction m with
 | zero =>
  intro i acc lps hs e l p
  refine⟨[],acc,?_,by simpa using p⟩
  have:¬i<N:=by omega
  simp [QQ,itm,this]
 | succ m ih =>
  intro i acc lps hs e l p
  have lt:i<N:=by omega
  have la:acc.length<1000000:=by omega
  obtain⟨z,us,g1,g2⟩:=ih (i+1) (acc++[.ref (hs.length+1)]) (lps++[lp0]) (hs++[O.tup [],O.tup [.ref hs.length,.int 0 0,.int 0 0]]) (by omega) (by simp;omega) (QC ⟨hs.length+1,hs.length,[],rfl,by rw [List.getElem?_append_right (by omega)];simp [lp0],by simp,.nil⟩ (Qc (fun _ _ h=>h.mono TK.app) p))
  refine⟨O.tup []::O.tup [.ref hs.length,.int 0 0,.int 0 0]::z,us,?_,?_⟩
  ·rw [QQ];simp only [itm,lt,if_true,tgt,tgN,la,Z4,Qo,Bool.false_eq_true,if_false,ZP,evs,y_c,List.length_append,List.length_cons,List.length_nil,Nat.zero_add,List.append_assoc,List.cons_append,List.nil_append];simpa [Z4]using g1
  ·simpa [List.replicate_succ]using g2
noncomputable def Qfj:Nat->Nat->List Nm
 | _,0=>[]
 | i,m+1=>((0:Int),(i:Int))::Qfj (i+1) m
theorem QeR{T:Tbl}{cf:Cf}{d N:Nat}{a b c e f:Option U}:∀(m i:Nat) (acc:List U) (nms:List Nm) (hs:Hs),i+m=N->acc.length+m<=1000000->PySem.Paired (DN hs) acc nms ->
  ∃z us,QQ T (ev T cf (d+10)) (Z4 (evT T cf (d+10)) none) (.rng 0 N) false (.tup [(.c (.int 0 0)),(.var 5)]) [a,b,c,e,f] (m+1) i acc hs=some (us,hs++z)/\PySem.Paired (DN (hs++z)) us (nms++Qfj i m):=by
 intro m
 induction m with
 | zero =>
  intro i acc lps hs e l p
  refine⟨[],acc,?_,by simpa [Qfj]using p⟩
  have:¬i<N:=by omega
  simp [QQ,itm,this]
 | succ m ih =>
  intro i acc lps hs e l p
  have lt:i<N:=by omega
  have la:acc.length<1000000:=by omega
  obtain⟨z,us,g1,g2⟩:=ih (i+1) (acc++[.ref hs.length]) (lps++[((0:Int),(i:Int))]) (hs++[O.tup [.int 0 0,.int i 0]]) (by omega) (by simp;omega) (QC ⟨hs.length,rfl,at0⟩ (Qc (fun _ _ h=>h.mono TK.app) p))
  refine⟨O.tup [.int 0 0,.int i 0]::z,us,?_,?_⟩
  ·rw [QQ];simp only [itm,lt,if_true,tgt,tgN,QcY,la,Z4,Qo,ZP,evs,y_c,Qi,List.length_cons,List.length_nil,Nat.zero_add,Nat.reduceAdd,List.cons_append,List.nil_append,List.set_cons_succ,List.set_cons_zero,List.getElem?_cons_succ,List.getElem?_cons_zero,Int.zero_add,Bool.false_eq_true,if_false];simpa [Z4]using g1
  ·simpa [Qfj]using g2
noncomputable def QU(ns:List Int):Nat:=(c0 ns % 9).toNat
noncomputable def W0(n:Nat):Ws:=⟨[List.replicate n lp0],Qfj 0 n,[],[],[],[],[]⟩
noncomputable def Qnv:List S:=[(.set 1 (.op .Mod (.call 2 [(.var 0),(.c (.int 0 0))]) (.c (.int 9 0)))),(.set 2 (.dsp [(.str [114,111,119,115]),(.str [108,101,102,116])] [(.lst [(.comp (.rng (.var 1)) false none (.tup [(.tup []),(.c (.int 0 0)),(.c (.int 0 0))]))]),(.comp (.rng (.var 1)) false none (.tup [(.c (.int 0 0)),(.var 5)]))])),(.expr (.bm .update (.var 2) [(.dsp [(.str [103,105,118,101,110]),(.str [110,101,119]),(.str [112,117,116]),(.str [107,101,112,116]),(.str [111,102,102])] [(.lst []),(.lst []),.dnew,.dnew,(.lst [])])]))]
theorem QjD{T:Tbl}{cf:Cf}{d:Nat}{ks:List U}{es:List E}{ρ:Rho}{hs:Hs}:ev T cf (d+1) (.dsp ks es) ρ hs=bd (evs (ev T cf d) ρ es (hs++[.dic []])) fun us h1=>(match h1[hs.length]? with
   | some (.dic [])=>some (.ref hs.length,h1.set hs.length (.dic (ZG [] (ks.zip us))))
   | _=>none):=by rw [ev]<;>rfl
theorem QaJ{H pre rest:Hs}{a:O}{i:Nat}(e:H=pre++a::rest)(hi:i=pre.length):H[i]?=some a:=by rw [e,hi];exact at0
theorem QaS{hs Z:Hs}{a b:O}:(hs++[a]++Z).set hs.length b=hs++[b]++Z:=by
 rw [List.set_append_left _ _ (by simp),Qom]
theorem Qhu{TT:Tbl}{cf:Cf}{d f i:Nat}{ρ:Rho}{hs h1:Hs}{u c v:U}(hi:ρ[i]?=some (some u))(e:cf f [u,c] hs=some (v,h1)):ev TT cf (d+2) (.call f [.var i,.c c]) ρ hs=some (v,h1):=by
 simp only [QY,evs,Qi,hi,y_c,Qo,e]
theorem QiI{a b:U}:ZG [] ([(U.str [114,111,119,115]),(.str [108,101,102,116])].zip [a,b])=[(kR,a),(kL,b)]:=rfl
theorem QiH{a b c d e:U}:ZG [] ([(U.str [103,105,118,101,110]),(.str [110,101,119]),(.str [112,117,116]),(.str [107,101,112,116]),(.str [111,102,102])].zip [a,b,c,d,e])=[(kG,a),(kN,b),(kP,c),(kK,d),(kOf,e)]:=rfl
theorem QiG{x y a b c d e:U}:ZG [(kR,x),(kL,y)] [(kG,a),(kN,b),(kP,c),(kK,d),(kOf,e)]=[(kR,x),(kL,y),(kG,a),(kN,b),(kP,c),(kK,d),(kOf,e)]:=rfl
theorem Qmv{T:Tbl}{H:Hs}{w e:Nat}{kvs more:List (U×U)}(hw:H[w]?=some (.dic kvs))(he:H[e]?=some (.dic more))(ne:w≠e)(l:kvs.length+more.length<=1000000):bmU T .update (.ref w) [.ref e] H=some (.non,H.set w (.dic (ZG kvs more))):=by
 simp only [bmU,hw,bmD,he];rw [if_pos ⟨ne,l⟩]
theorem QjQ{T:Tbl}{cf:Cf}{d:Nat}{ρ:Rho}{hs h1 h2:Hs}{k1 k2 u1 u2:U}{e1 e2:E}(a:ev T cf d e1 ρ (hs++[.dic []])=some (u1,h1))(b:ev T cf d e2 ρ h1=some (u2,h2))(c:h2[hs.length]?=some (.dic [])):ev T cf (d+1) (.dsp [k1,k2] [e1,e2]) ρ hs=some (.ref hs.length,h2.set hs.length (.dic (ZG [] ([k1,k2].zip [u1,u2])))):=by
 rw [QjD];simp only [evs,a,b,Qo,c]
theorem Qlx{T:Tbl}{cf:Cf}{d:Nat}{ρ:Rho}{D:Hs}:ev T cf (d+3) (.dsp [(.str [103,105,118,101,110]),(.str [110,101,119]),(.str [112,117,116]),(.str [107,101,112,116]),(.str [111,102,102])] [(.lst []),(.lst []),.dnew,.dnew,(.lst [])]) ρ D=some (.ref D.length,D++[O.dic [(kG,.ref (D.length+1)),(kN,.ref (D.length+2)),(kP,.ref (D.length+3)),(kK,.ref (D.length+4)),(kOf,.ref (D.length+5))]]++[O.lst [],O.lst [],O.dic [],O.dic [],O.lst []]):=by
 rw [QjD];simp only [evs,Zs,QjE,Qo,List.length_append,List.length_singleton,List.append_assoc,List.cons_append,List.nil_append];rw [at0];simp only [QiH,Nat.add_assoc,Nat.reduceAdd];rw [List.set_append_right _ _ (Nat.le_refl _),Nat.sub_self];rfl
theorem Qnk{x w a d:Nat}(h:x∈[w,a,d+1,d+2,d+3,d+4,d+5]):x=w\/x=a\/d<x:=by
 simp only [List.mem_cons,List.not_mem_nil,or_false]at h
 rcases h with h | h | h | h | h | h | h
 ·exact .inl h
 ·exact .inr (.inl h)
 ·exact .inr (.inr (by rw [h];exact Nat.lt_succ_self _))
 ·exact .inr (.inr (by rw [h];exact Nat.lt_add_of_pos_right (by decide)))
 ·exact .inr (.inr (by rw [h];exact Nat.lt_add_of_pos_right (by decide)))
 ·exact .inr (.inr (by rw [h];exact Nat.lt_add_of_pos_right (by decide)))
 ·exact .inr (.inr (by rw [h];exact Nat.lt_add_of_pos_right (by decide)))
theorem nd7{w a d:Nat}(h1:w<a)(h2:a<=d):[w,a,d+1,d+2,d+3,d+4,d+5].Nodup:=by
 have up:∀{x y:Nat} {l:List Nat},x<y->(∀z∈y::l,y<=z)->∀z∈y::l,x<z:=fun h k z m=>Nat.lt_of_lt_of_le h (k z m);have five:[d+1,d+2,d+3,d+4,d+5]=[1,2,3,4,5].map (d + ·):=rfl
 have n5:[d+1,d+2,d+3,d+4,d+5].Nodup:=by
  rw [five]
  exact List.Pairwise.map _ (fun a b h e=>h (Nat.add_left_cancel e)) (by decide:([1,2,3,4,5]:List Nat).Nodup)
 have gt:∀z∈[d+1,d+2,d+3,d+4,d+5],d<z:=fun z m=>by
  rw [five]at m;obtain⟨k,mk,rfl⟩:=List.mem_map.mp m
  exact Nat.lt_add_of_pos_right ((by decide:∀k∈([1,2,3,4,5]:List Nat),0<k) k mk)
 refine List.nodup_cons.mpr ⟨fun m=>?_,List.nodup_cons.mpr ⟨fun m=>?_,n5⟩⟩
 ·rcases List.mem_cons.mp m with e | m
  ·exact Nat.lt_irrefl _ (e▸h1)
  ·exact Nat.lt_irrefl _ (Nat.lt_trans (Nat.lt_of_lt_of_le h1 h2) (gt _ m))
 ·exact Nat.lt_irrefl _ (Nat.lt_of_le_of_lt h2 (gt _ m))
theorem QlT{P Q:Hs}{n k:Nat}(h:P.length=n):(P++Q)[n+k]?=Q[k]?:=by rw [<-h,List.getElem?_append_right (Nat.le_add_right _ _),Nat.add_sub_cancel_left]
theorem QjK{ns:List Int}{m d:Nat}{hs:Hs}{rest:List S}:∃hs' w,exs (tb (ns.map fun n=>U.int n 0)) (Qa (tb (ns.map fun n=>U.int n 0)) (m+1)) (d+40) (Qnv++rest) [some .scr,none,none,none,none] hs=exs (tb (ns.map fun n=>U.int n 0)) (Qa (tb (ns.map fun n=>U.int n 0)) (m+1)) (d+37) rest [some .scr,some (.int (QU ns) 0),some (.ref w),none,none] hs'/\St (fun p o=>hs[p]?=some o) hs' w (W0 (QU ns)):=by
 have hc:=Qjh (ns:=ns) (m:=m) (hs:=hs);generalize Qa (tb (ns.map fun n=>U.int n 0)) (m+1)=cf at hc ⊢;generalize tb (ns.map fun n=>U.int n 0)=T at hc ⊢
 have em:((QU ns:Nat):Int)=c0 ns % 9:=by unfold QU;exact Int.toNat_of_nonneg (Int.emod_nonneg _ (by decide))
 have lm:QU ns<9:=by have:=Int.emod_lt_of_pos (c0 ns) (show(0:Int) < 9 by decide);omega
 have x1:ex T cf (d+39) (.set 1 (.op .Mod (.call 2 [(.var 0),(.c (.int 0 0))]) (.c (.int 9 0)))) [some .scr,none,none,none,none] hs=some (.next,[some .scr,some (.int (QU ns) 0),none,none,none],hs):=by
  refine Yk (u:=.int (QU ns) 0) (Ql4 (Qhu (u:=.scr) rfl hc) y_c ?_);rw [em]
  simp only [opU,md (show(0:Int) < 9 by decide),Option.map]
 generalize QU ns=n at em lm x1 ⊢;have vn:∀(h:Hs) d,ev T cf (d+1) (.var 1) [some .scr,some (.int n 0),none,none,none] h=some (.int (n:Int) 0,h):=fun h d=>Yl rfl
 obtain⟨z1,us1,g1,p1⟩:=QeU (T:=T) (cf:=cf) (d:=d+24) (N:=n) (ρ:=[some .scr,some (.int n 0),none,none,none]) n 0 [] [] (hs++[O.dic []]) (by omega) (by simp;omega) .nil
 have k1:=Jc (t:=none) (el:=.tup [(.tup []),(.c (.int 0 0)),(.c (.int 0 0))]) (YC (TT:=T) (cf:=cf) (vn (hs++[O.dic []]) (d+33)) (by omega)) g1
 have k1':ev T cf (d+36) (.lst [(.comp (.rng (.var 1)) false none (.tup [(.tup []),(.c (.int 0 0)),(.c (.int 0 0))]))]) [some .scr,some (.int n 0),none,none,none] (hs++[O.dic []])=some (.ref ((hs++[O.dic []]++z1).length+1),hs++[O.dic []]++z1++[O.lst us1]++[O.lst [.ref (hs++[O.dic []]++z1).length]]):=by
  rw [Zs];simp only [evs];rw [k1];simp only [Qo,List.length_append,List.length_singleton]
 obtain⟨z2,us2,g2,p2⟩:=QeR (T:=T) (cf:=cf) (d:=d+25) (N:=n) (a:=some .scr) (b:=some (.int n 0)) (c:=none) (e:=none) (f:=none) n 0 [] [] (hs++[O.dic []]++z1++[O.lst us1]++[O.lst [.ref (hs++[O.dic []]++z1).length]]) (by omega) (by simp;omega) .nil
 have k2:=Jc (t:=none) (el:=.tup [(.c (.int 0 0)),(.var 5)]) (YC (TT:=T) (cf:=cf) (vn (hs++[O.dic []]++z1++[O.lst us1]++[O.lst [.ref (hs++[O.dic []]++z1).length]]) (d+34)) (by omega)) g2
 generalize hA:(hs++[O.dic []]++z1).length=A at k1' g2 p2 k2
 have eA:A=hs.length+1+z1.length:=by rw [<-hA];simp;omega
 generalize hZ:z1++[O.lst us1,O.lst [.ref A]]++z2++[O.lst us2]=Z
 have eZ:(hs++[O.dic []]++z1++[O.lst us1]++[O.lst [.ref A]])++z2++[O.lst us2]=hs++[O.dic []]++Z:=by rw [<-hZ];simp
 generalize hB:(hs++[O.dic []]++z1++[O.lst us1]++[O.lst [.ref A]]++z2).length=B at k2
 have eB:B=A+2+z2.length:=by rw [<-hB,eA];simp;omega
 rw [eZ]at k2
 have lZ:Z.length+hs.length=B:=by rw [<-hZ,eB,eA];simp;omega
 have d2:ev T cf (d+37) (.dsp [(.str [114,111,119,115]),(.str [108,101,102,116])] [(.lst [(.comp (.rng (.var 1)) false none (.tup [(.tup []),(.c (.int 0 0)),(.c (.int 0 0))]))]),(.comp (.rng (.var 1)) false none (.tup [(.c (.int 0 0)),(.var 5)]))]) [some .scr,some (.int n 0),none,none,none] hs=some (.ref hs.length,hs++[O.dic [(kR,.ref (A+1)),(kL,.ref B)]]++Z):=by
  have:=QjQ (k1:=.str [114,111,119,115]) (k2:=.str [108,101,102,116]) k1' k2 (QaJ (H:=hs++[O.dic []]++Z) (pre:=hs) (rest:=Z) (a:=O.dic []) (by simp) rfl)
  rw [QaS,QiI]at this;exact this
 have x2:=Yk (i:=2) d2;simp only [List.set_cons_succ,List.set_cons_zero]at x2
 -- the rest of the web
 generalize hD:hs++[O.dic [(kR,.ref (A+1)),(kL,.ref B)]]++Z=D at x2
 have eD:D.length=B+1:=by rw [<-hD];simp;omega
 have o1:hs.length<A:=by rw [eA];exact Nat.lt_of_lt_of_le (Nat.lt_succ_self _) (Nat.le_add_right _ _)
 have o2:A+1<B:=by rw [eB];exact Nat.lt_of_lt_of_le (Nat.lt_succ_self (A+1)) (Nat.le_add_right _ _)
 have o3:B<D.length:=by rw [eD];exact Nat.lt_succ_self _
 have o4:hs.length<D.length:=Nat.lt_trans o1 (Nat.lt_trans (Nat.lt_of_succ_lt o2) o3)
 have hDw:D[hs.length]?=some (.dic [(kR,.ref (A+1)),(kL,.ref B)]):=QaJ (pre:=hs) (rest:=Z) (by rw [<-hD];simp) rfl
 have d3:=Qlx (T:=T) (cf:=cf) (d:=d+32) (ρ:=[some .scr,some (.int n 0),some (.ref hs.length),none,none]) (D:=D);generalize hE:D++[O.dic [(kG,.ref (D.length+1)),(kN,.ref (D.length+2)),(kP,.ref (D.length+3)),(kK,.ref (D.length+4)),(kOf,.ref (D.length+5))]]++[O.lst [],O.lst [],O.dic [],O.dic [],O.lst []]=E at d3
 have hEw:E[hs.length]?=some (.dic [(kR,.ref (A+1)),(kL,.ref B)]):=by rw [<-hE,List.append_assoc];exact Qj hDw
 have hEd:E[D.length]?=some (O.dic [(kG,.ref (D.length+1)),(kN,.ref (D.length+2)),(kP,.ref (D.length+3)),(kK,.ref (D.length+4)),(kOf,.ref (D.length+5))]):=QaJ (pre:=D) (rest:=[O.lst [],O.lst [],O.dic [],O.dic [],O.lst []]) (by rw [<-hE];simp) rfl
 generalize hq:(⟨hs.length,A+1,B,D.length+1,D.length+2,D.length+3,D.length+4,D.length+5⟩:Pl)=q
 have up:bmU T .update (.ref hs.length) [.ref D.length] E=some (.non,E.set hs.length (.dic (QK q))):=by
  rw [Qmv hEw hEd (Nat.ne_of_lt o4) (by simp),QiG,<-hq]
  rfl
 have rc:QaV .update (.ref hs.length) D=true:=by simp only [QaV,hDw];rfl
 have x3:ex T cf (d+37) (.expr (.bm .update (.var 2) [(.dsp [(.str [103,105,118,101,110]),(.str [110,101,119]),(.str [112,117,116]),(.str [107,101,112,116]),(.str [111,102,102])] [(.lst []),(.lst []),.dnew,.dnew,(.lst [])])])) [some .scr,some (.int n 0),some (.ref hs.length),none,none] D=some (.next,[some .scr,some (.int n 0),some (.ref hs.length),none,none],E.set hs.length (.dic (QK q))):=by
  refine YA (u:=.non) ?_;simp only [Qco,Qi,List.getElem?_cons_zero,List.getElem?_cons_succ,Qo,rc,if_true,evs];rw [d3];simp only [Qo,up]
 have eF:E.set hs.length (.dic (QK q))=hs++[O.dic (QK q)]++z1++[O.lst us1,O.lst [.ref A]]++z2++[O.lst us2]++[O.dic [(kG,.ref (D.length+1)),(kN,.ref (D.length+2)),(kP,.ref (D.length+3)),(kK,.ref (D.length+4)),(kOf,.ref (D.length+5))],O.lst [],O.lst [],O.dic [],O.dic [],O.lst []]:=by
  rw [<-hE,<-hD,List.append_assoc,List.append_assoc,QaS,<-hZ];simp
 generalize E.set hs.length (.dic (QK q))=F at x3 eF;generalize [(kG,U.ref (D.length+1)),(kN,.ref (D.length+2)),(kP,.ref (D.length+3)),(kK,.ref (D.length+4)),(kOf,.ref (D.length+5))]=G5 at eF
 have qw:q.w=hs.length:=by rw [<-hq]
 have qr:q.r=A+1:=by rw [<-hq]
 have ql:q.l=B:=by rw [<-hq]
 have qg:q.g=D.length+1:=by rw [<-hq]
 have qn:q.n=D.length+2:=by rw [<-hq]
 have qp:q.p=D.length+3:=by rw [<-hq]
 have qk:q.k=D.length+4:=by rw [<-hq]
 have qo:q.o=D.length+5:=by rw [<-hq]
 have lA:(hs++[O.dic (QK q)]++z1).length=A:=by rw [<-hA];simp only [List.length_append,List.length_singleton]
 have lB:(hs++[O.dic (QK q)]++z1++[O.lst us1,O.lst [.ref A]]++z2).length=B:=by rw [eB,List.length_append,List.length_append,lA];rfl
 have lP:(hs++[O.dic (QK q)]++z1++[O.lst us1,O.lst [.ref A]]++z2++[O.lst us2]).length=D.length:=by rw [eD,List.length_append,lB];rfl
 have f0:F[hs.length]?=some (.dic (QK q)):=QaJ (pre:=hs) (by rw [eF];simp only [List.append_assoc,List.cons_append,List.nil_append];rfl) rfl
 have f1:F[A]?=some (.lst us1):=QaJ (pre:=hs++[O.dic (QK q)]++z1) (by rw [eF];simp only [List.append_assoc,List.cons_append,List.nil_append];rfl) lA.symm
 have f2:F[A+1]?=some (.lst [.ref A]):=QaJ (pre:=hs++[O.dic (QK q)]++z1++[O.lst us1]) (by rw [eF];simp only [List.append_assoc,List.cons_append,List.nil_append];rfl) (by rw [List.length_append,lA];rfl)
 have f3:F[B]?=some (.lst us2):=QaJ (pre:=hs++[O.dic (QK q)]++z1++[O.lst us1,O.lst [.ref A]]++z2) (by rw [eF];simp only [List.append_assoc,List.cons_append,List.nil_append];rfl) lB.symm
 have f4:F[D.length+1]?=some (.lst []):=by rw [eF,QlT lP];rfl
 have f5:F[D.length+2]?=some (.lst []):=by rw [eF,QlT lP];rfl
 have f6:F[D.length+3]?=some (.dic []):=by rw [eF,QlT lP];rfl
 have f7:F[D.length+4]?=some (.dic []):=by rw [eF,QlT lP];rfl
 have f8:F[D.length+5]?=some (.lst []):=by rw [eF,QlT lP];rfl
 have tks:∀{Y R:Hs},F=hs++[O.dic (QK q)]++Y++R->TK (hs++[O.dic []]++Y) F:=fun {Y R} e=>by
  have:=(TK.set (y:=.dic (QK q)) (x:=.dic []) (QaJ (H:=hs++[O.dic []]++Y) (pre:=hs) (rest:=Y) (by simp) rfl) (by simp))
  rw [QaS]at this;rw [e];exact this.trans TK.app
 have t1:TK (hs++[O.dic []]++z1) F:=tks (R:=[O.lst us1,O.lst [.ref A]]++z2++[O.lst us2]++[O.dic G5,O.lst [],O.lst [],O.dic [],O.dic [],O.lst []]) (by rw [eF];simp)
 have t2:TK (hs++[O.dic []]++z1++[O.lst us1]++[O.lst [.ref A]]++z2) F:=by
  have:=tks (Y:=z1++[O.lst us1]++[O.lst [.ref A]]++z2) (R:=[O.lst us2]++[O.dic G5,O.lst [],O.lst [],O.dic [],O.dic [],O.lst []]) (by rw [eF];simp)
  simpa using this
 have eM:Qs q ⟨[.ref A],[],[],[],us2,[]⟩=[hs.length,A+1,D.length+1,D.length+2,D.length+3,D.length+4,D.length+5]:=by simp only [Qs,qw,qr,qg,qn,qp,qk,qo,List.map_nil,List.append_nil]
 refine⟨F,hs.length,?_,q,⟨[.ref A],[],[],[],us2,[]⟩,⟨⟨fun p mp=>?_,?_⟩,⟨.cons ⟨A,us1,rfl,f1,?_,by simpa using Qc (fun _ _ h=>h.mono t1) p1⟩ .nil,.nil,.nil,.nil,by rw [ql];exact f3,?_,by simpa [W0]using Qc (fun _ _ h=>h.mono t2) p2,.nil⟩⟩,qw,fun p o e=>⟨?_,?_⟩⟩
 ·unfold Qnv;rw [List.cons_append,Qn x1,List.cons_append,Qn x2,List.cons_append,Qn x3,List.nil_append]
 ·simp only [cells,qw,qr,qg,qn,qp,qk,qo,List.map_nil,List.append_nil,List.mem_cons,List.not_mem_nil,or_false]at mp
  rcases mp with rfl | rfl | rfl | rfl | rfl | rfl | rfl
  ·exact f0
  ·exact f2
  ·exact f4
  ·exact f5
  ·exact f6
  ·exact f7
  ·exact f8
 ·rw [Yg,eM];exact nd7 (Nat.lt_succ_of_lt o1) (Nat.le_of_lt (Nat.lt_trans o2 o3))
 ·rw [eM];exact fun m=>(Qnk m).elim (fun h=>Nat.ne_of_gt o1 h) fun h=>h.elim (fun h=>Nat.succ_ne_self A h.symm) fun h=>Nat.lt_asymm h (Nat.lt_trans (Nat.lt_of_succ_lt o2) o3)
 ·rw [eM,ql];exact fun m=>(Qnk m).elim (fun h=>Nat.ne_of_gt (Nat.lt_trans o1 (Nat.lt_of_succ_lt o2)) h) fun h=>h.elim (fun h=>Nat.ne_of_gt o2 h) fun h=>Nat.lt_asymm h o3
 ·rw [eF];simp only [List.append_assoc];exact Qj e
 ·have lp:=(List.getElem?_eq_some_iff.mp e).1;rw [eM];exact fun m=>(Qnk m).elim (fun h=>Nat.ne_of_lt lp h) fun h=>h.elim (fun h=>Nat.ne_of_lt (Nat.lt_trans lp (Nat.lt_succ_of_lt o1)) h) fun h=>Nat.lt_asymm h (Nat.lt_trans lp o4)
theorem St.add{P:Nat->O->Prop}{hs:Hs}{w:Nat}{W:Ws}{x:O}(h:St P hs w W):St (fun p o=>P p o\/(p=hs.length/\o=x)) (hs++[x]) w W:=by
 obtain⟨q,c,h,rfl,k⟩:=h;refine⟨q,c,h.app,rfl,fun p o e=>?_⟩
 rcases e with e | ⟨rfl,rfl⟩
 ·exact⟨Qj (k p o e).1,(k p o e).2⟩
 ·exact⟨at0,h.fresh (Nat.le_refl _)⟩
theorem QcE{s:List U}{P:Nat->O->Prop}{w m d L:Nat}{X:List Int}{a b:Option U}(hP:P L (.lst (X.map fun n=>U.int n 0))):∀(vs:List Int) (i k:Nat) (hs:Hs) (W:Ws) (o:Option U),X.drop i=vs->St P hs w W->Ok W->sz W+26*vs.length<90000->vs.length<k ->
  ∃hs' o',ZE (tb s) (.seqL (.ref L)) (.name 3) (exs (tb s) (Qa (tb s) (m+3)) (d+30) bdW) k i [a,b,some (.ref w),o,none] hs=some (.next,[a,b,some (.ref w),o',none],hs')/\St P hs' w (vs.foldl turn W):=by
 intro vs
 induction vs with
 | nil =>
  intro i k hs W o hd h ok l lk
  cases k with
  | zero=>simp at lk
  | succ k =>
   obtain⟨q,c,h1,e1,k1⟩:=h;have hL:=(k1 _ _ hP).1
   have e:(X.map fun n=>U.int n 0)[i]?=none:=by rw [List.getElem?_eq_none_iff,List.length_map];exact List.drop_eq_nil_iff.mp hd
   refine⟨hs,o,?_,q,c,h1,e1,k1⟩;simp [ZE,itm,QA,hL,e]
 | cons v vs ih =>
  intro i k hs W o hd h ok l lk
  cases k with
  | zero=>simp at lk
  | succ k =>
   have hL:hs[L]?=some (.lst (X.map fun n=>U.int n 0)):=by obtain⟨q,c,h1,e1,k1⟩:=h;exact(k1 _ _ hP).1
   have e0:X[i]?=some v:=by
    have:=List.getElem?_drop (xs:=X) (i:=i) (j:=0);rw [hd]at this;simpa using this.symm
   have e:(X.map fun n=>U.int n 0)[i]?=some (.int v 0):=by rw [List.getElem?_map,e0];rfl
   have hd':X.drop (i+1)=vs:=by rw [<-List.drop_drop,hd];rfl
   rw [List.length_cons]at l lk
   obtain⟨hs1,g1,st1⟩:=QjI (s:=s) (m:=m) (d:=d) (x:=v) (ρ:=[a,b,some (.ref w),some (.int v 0),none]) h ok (by omega) rfl rfl
   have t:=Qc8 (x:=v) ok
   obtain⟨hs',o',g2,st2⟩:=ih (i+1) k hs1 (turn W v) (some (.int v 0)) hd' st1 t.1 (by omega) (by omega)
   refine⟨hs',o',?_,st2⟩;simp only [ZE,itm,QA,hL,e,Option.map,tgt,List.set_cons_succ,List.set_cons_zero];rw [g1];exact g2
theorem Ju:∀(vs:List Int) (W:Ws),Ok W->Ok (vs.foldl turn W)/\sz (vs.foldl turn W)<=sz W+26*vs.length/\(vs.foldl turn W).off.length<=W.off.length+vs.length
 | [],W,h=>⟨h,by simp,by simp⟩
 | v::vs,W,h=>by
  have t:=Qc8 (x:=v) h;have r:=Ju vs (turn W v) t.1;rw [List.foldl_cons,List.length_cons]
  exact⟨r.1,by omega,by omega⟩
noncomputable def DK(hs:Hs)(u:U)(a:U×List Nm):Prop:=∃i j vs,u=.ref i/\hs[i]?=some (.tup [a.1,.ref j])/\hs[j]?=some (.lst vs)/\PySem.Paired (DN hs) vs a.2/\∃c,a.1=.str [c]/\c<128
noncomputable def DRw(hs:Hs)(u:U)(a:List Lp):Prop:=∃i us,u=.ref i/\hs[i]?=some (.lst us)/\PySem.Paired (DL hs) us a
structure Wb where
 rows:List (List Lp)
 lie:List Nm
 kept:List (U×List Nm)
 off:List Nm
noncomputable def DW(hs:Hs)(u:U)(D:Wb):Prop:=∃i a b k o ra rb rk ro,u=.ref i/\hs[i]?=some (.tup [.ref a,.ref b,.ref k,.ref o])/\hs[a]?=some (.lst ra)/\hs[b]?=some (.lst rb)/\hs[k]?=some (.lst rk)/\hs[o]?=some (.lst ro) /\
 PySem.Paired (DRw hs) ra D.rows/\PySem.Paired (DN hs) rb D.lie/\PySem.Paired (DK hs) rk D.kept/\PySem.Paired (DN hs) ro D.off
theorem DN.kp{hs hs':Hs}(k:Kp hs hs'){u:U}{a:Nm}(h:DN hs u a):DN hs' u a:=h.mono fun i us e=>k i _ e
theorem DL.kp{hs hs':Hs}(k:Kp hs hs'){u:U}{a:Lp}(h:DL hs u a):DL hs' u a:=h.mono fun i us e=>k i _ e
theorem DK.kp{hs hs':Hs}(k:Kp hs hs'){u:U}{a:U×List Nm}(h:DK hs u a):DK hs' u a:=let ⟨i,j,vs,e,h1,h2,h3,h4⟩:=h;⟨i,j,vs,e,k _ _ h1,k _ _ h2,Qc (fun _ _=>DN.kp k) h3,h4⟩
theorem DRw.kp{hs hs':Hs}(k:Kp hs hs'){u:U}{a:List Lp}(h:DRw hs u a):DRw hs' u a:=let ⟨i,us,e,h1,h2⟩:=h;⟨i,us,e,k _ _ h1,Qc (fun _ _=>DL.kp k) h2⟩
theorem DW.kp{hs hs':Hs}(k:Kp hs hs'){u:U}{D:Wb}(h:DW hs u D):DW hs' u D:=by
 obtain⟨i,a,b,c,o,ra,rb,rk,ro,e,h1,h2,h3,h4,h5,h6,h7,h8,h9⟩:=h;exact⟨i,a,b,c,o,ra,rb,rk,ro,e,k _ _ h1,k _ _ h2,k _ _ h3,k _ _ h4,k _ _ h5,Qc (fun _ _=>DRw.kp k) h6,Qc (fun _ _=>DN.kp k) h7,Qc (fun _ _=>DK.kp k) h8,Qc (fun _ _=>DN.kp k) h9⟩
noncomputable def Y7(kept:List (U×List Nm))(ks:List Nat):List (U×List Nm):=ks.filterMap fun k=>(kept.find? fun p=>decide (p.1=U.str [k])).map fun p=>(U.str [k],p.2)
theorem Qei{hs:Hs}{k:U}:∀{kc:List (U×Nat×List U)} {kp:List (U×List Nm)},PySem.Paired (fun(x:U×Nat×List U) (y:U×List Nm)=>x.1=y.1/\PySem.Paired (DN hs) x.2.2 y.2) kc kp ->
  (QF (kc.map fun x=>(x.1,U.ref x.2.1)) k=none/\kp.find? (fun p=>decide (p.1=k))=none)\/∃x p,x∈kc/\QF (kc.map fun x=>(x.1,U.ref x.2.1)) k=some (.ref x.2.1)/\kp.find? (fun p=>decide (p.1=k))=some p/\PySem.Paired (DN hs) x.2.2 p.2
 | _,_,.nil=>.inl ⟨rfl,rfl⟩
 | x::r1,y::r2,.cons r t=>by
  by_cases e:x.1=k
  ·refine .inr ⟨x,y,List.mem_cons_self,?_,?_,r.2⟩
   ·simp [QF,e]
   ·simp [<-r.1,e]
  ·have e':¬y.1=k:=fun z=>e (r.1.trans z)
   rcases Qei (k:=k) t with⟨h1,h2⟩ | ⟨x',p,h1,h2,h3,h4⟩
   ·refine .inl ⟨?_,?_⟩
    ·simpa [QF,e]using h1
    ·rw [List.find?_cons_of_neg (by simpa using e')];exact h2
   ·refine .inr ⟨x',p,List.mem_cons_of_mem _ h1,?_,?_,h4⟩
    ·simpa [QF,e]using h2
    ·rw [List.find?_cons_of_neg (by simpa using e')];exact h3
noncomputable def Qjx:E:=.cmp .In (.var 5) (.ix (.var 2) (.c (.str [107,101,112,116])))
noncomputable def elK:E:=.tup [(.var 5),(.ix (.ix (.var 2) (.c (.str [107,101,112,116]))) (.var 5))]
theorem QeS{T:Tbl}{cf:Cf}{d:Nat}{X:List Nat}{q:Pl}{c:Ct}{W:Ws}{a b e f:Option U}(hX:∀v∈X,v<128):∀(ks:List Nat) (i k:Nat) (acc:List U) (dks:List (U×List Nm)) (hs:Hs),X.drop i=ks->Web hs q c W->acc.length+ks.length<=1000000->ks.length<k->PySem.Paired (DK hs) acc dks ->
  ∃z us,QQ T (ev T cf (d+10)) (Z4 (evT T cf (d+10)) (some Qjx)) (.strW X) false elK [a,b,some (.ref q.w),e,f] k i acc hs=some (us,hs++z)/\PySem.Paired (DK (hs++z)) us (dks++Y7 W.kept ks):=by
 intro ks
 induction ks with
 | nil =>
  intro i k acc dks hs hd h l lk p
  cases k with
  | zero=>simp at lk
  | succ k =>
   refine⟨[],acc,?_,by simpa [Y7]using p⟩
   have ei:X[i]?=none:=by rw [List.getElem?_eq_none_iff];exact List.drop_eq_nil_iff.mp hd
   simp [QQ,itm,ei]
 | cons v vs ih =>
  intro i k acc dks hs hd h l lk p
  cases k with
  | zero=>simp at lk
  | succ k =>
   have ei:X[i]?=some v:=by
    have:=List.getElem?_drop (xs:=X) (i:=i) (j:=0);rw [hd]at this;simpa using this.symm
   have hd':X.drop (i+1)=vs:=by rw [<-List.drop_drop,hd];rfl
   rw [List.length_cons]at l lk
   have hw:=h.mem (p:=(q.w,.dic (QK q))) (by simp [cells])
   have hk:=h.mem (p:=(q.k,.dic (c.kc.map fun x=>(x.1,.ref x.2.1)))) (by simp [cells])
   have la:acc.length<1000000:=by omega
   have cm:Zn T .In (.str [v]) (.ref q.k) hs=some (QF (c.kc.map fun x=>(x.1,U.ref x.2.1)) (.str [v])).isSome:=by
    have e1:ZN T (.ref q.k) hs=none:=by simp only [ZN,hk]
    simp only [Zn,e1,inD,hk,ZL,Y6,if_true,Option.map]
   have sb:QH T (.ref q.k) (.str [v]) hs=QF (c.kc.map fun x=>(x.1,U.ref x.2.1)) (.str [v]):=by
    simp only [QH,hk,ZL,Y6,if_true,Option.bind,id]
   rcases Qei (k:=.str [v]) h.rs.kc with⟨h1,h2⟩ | ⟨x',pp,h1,h2,h3,h4⟩
   ·obtain⟨z,us,g1,g2⟩:=ih (i+1) k acc dks hs hd' h (by omega) (by omega) p
    refine⟨z,us,?_,?_⟩
    ·rw [QQ];rw [h1]at cm;simp only [itm,ei,Option.map,tgt,tgN,QcY,la,if_true,Z4,Qjx,QP,Q6,Qi,Zq,y_c,Qo,List.length_cons,List.length_nil,Nat.zero_add,Nat.reduceAdd,List.cons_append,List.nil_append,List.set_cons_succ,List.set_cons_zero,List.getElem?_cons_succ,List.getElem?_cons_zero,Bool.false_eq_true,if_false,s_K hw,cm,Option.isSome_none,Zj];simpa [Qjx]using g1
    ·have:Y7 W.kept (v::vs)=Y7 W.kept vs:=by simp only [Y7,List.filterMap_cons,h2,Option.map_none]
     rw [this];exact g2
   ·have hj:=h.mem (p:=(x'.2.1,.lst x'.2.2)) (by simp only [cells];exact List.mem_append_right _ (List.mem_map.mpr ⟨x',h1,rfl⟩))
    obtain⟨z,us,g1,g2⟩:=ih (i+1) k (acc++[.ref hs.length]) (dks++[(.str [v],pp.2)]) (hs++[O.tup [.str [v],.ref x'.2.1]]) hd' h.app (by simp;omega) (by omega) (QC ⟨hs.length,x'.2.1,x'.2.2,rfl,at0,Qj hj,Qc (fun _ _=>Zh) h4,v,rfl,hX v (List.mem_of_getElem? ei)⟩ (Qc (fun _ _=>DK.kp (Kp.app _ _)) p))
    refine⟨O.tup [.str [v],.ref x'.2.1]::z,us,?_,?_⟩
    ·rw [QQ];rw [h2]at cm sb;simp only [itm,ei,Option.map,tgt,tgN,QcY,la,if_true,Z4,Qjx,elK,QP,Q6,Qi,Zq,ZP,evs,y_c,Qo,List.length_cons,List.length_nil,Nat.zero_add,Nat.reduceAdd,List.cons_append,List.nil_append,List.set_cons_succ,List.set_cons_zero,List.getElem?_cons_succ,List.getElem?_cons_zero,Bool.false_eq_true,if_false,s_K hw,cm,sb,Option.isSome_some,Zj];simpa [Qjx,elK]using g1
    ·have:Y7 W.kept (v::vs)=(.str [v],pp.2)::Y7 W.kept vs:=by simp only [Y7,List.filterMap_cons,h3,Option.map_some]
     rw [this];simpa using g2
noncomputable def ks4:List Nat:=[119,120,121,122]
noncomputable def nmL(a:Nm):List Int:=[a.1,a.2]
noncomputable def QhQ(off:List Nm):List Nm:=(L2.permK (if off.length<2 then []else off.map nmL) off.length).map fun i=>off.getD i (0,0)
noncomputable def Qfs(W:Ws):Wb:=⟨W.rows++[W.new],W.given++W.left,Y7 W.kept ks4,QhQ W.off⟩
theorem QdF{α β:Type}{P:α->β->Prop}{x:α}{y:β}:∀{l:List α} {r:List β},PySem.Paired P l r->∀i,i<l.length->P (l.getD i x) (r.getD i y)
 | _,_,.nil,i,h=>by simp at h
 | _,_,.cons a t,0,_=>a
 | _,_,.cons a t,i+1,h=>by
  have:=QdF (x:=x) (y:=y) t i (by simpa using h)
  simpa using this
theorem QgW{α β:Type}{P:α->β->Prop}{x:α}{y:β}{l:List α}{r:List β}(h:PySem.Paired P l r):∀{is:List Nat},(∀i∈is,i<l.length)->PySem.Paired P (is.map fun i=>l.getD i x) (is.map fun i=>r.getD i y)
 | [],_=>.nil
 | i::is,m=>.cons (QdF h i (m i List.mem_cons_self)) (QgW h fun j mj=>m j (List.mem_cons_of_mem _ mj))
theorem Qha{hs:Hs}:∀{us:List U} {nms:List Nm},PySem.Paired (DN hs) us nms->QiT hs us=some (nms.map nmL)
 | _,_,.nil=>rfl
 | _,_,.cons h t=>by
  obtain⟨i,rfl,e⟩:=h;have ih:=Qha t;simp only [QiT,itU,e,Qau,ih,Option.map,Option.bind,List.map_cons,nmL]
theorem QhP{T:Tbl}{hs:Hs}{p:Nat}{us:List U}{nms:List Nm}(hp:hs[p]?=some (.lst us))(pn:PySem.Paired (DN hs) us nms)(l:us.length<64):∃vs,biU T .sorted [.ref p] hs=some (.ref hs.length,hs++[.lst vs])/\PySem.Paired (DN hs) vs (QhQ nms):=by
 have el:=Qg pn
 have lt:∀ks n,∀i∈L2.permK ks n,i<n:=fun ks n i m=>by
  have:=(L2.permK_perm ks n).mem_iff.mp m;simpa using this
 refine⟨Qcw (if nms.length<2 then []else nms.map nmL) us,?_,?_⟩
 ·have e1:(if us.length<2 then some []else QiT hs us)=some (if nms.length<2 then []else nms.map nmL):=by
   rw [Qha pn,el];split<;>rfl
  show(QA T (.ref p) hs).bind _=_;simp only [QA,hp,Option.bind,l,if_true,e1,Option.map]
 ·unfold Qcw QhQ;rw [el]
  exact QgW pn fun i m=>by rw [el];exact lt _ _ i m
theorem Qjd{α β:Type}{f:α->β}{xs:List α}{a b:Option Int}:Zi (xs.map f) a b=(Zi xs a b).map f:=by
 unfold Zi;rw [List.length_map,List.map_take,List.map_drop]
noncomputable def cel(ns:List Int):List Int:=Zi ns (some 2) (some 62)
noncomputable def Jb(ns:List Int):Ws:=(cel ns).foldl turn (W0 (QU ns))
noncomputable def Qno:S:=(.loop (.name 3) (.seq (.sl (.var 0) (some (.c (.int 2 0))) (some (.c (.int 62 0))))) bdW)
noncomputable def Qnp:S:=(.set 4 (.comp (.seq (.c (.str [119,120,121,122]))) false (some Qjx) elK))
noncomputable def Ql6:E:=(.tup [(.op .Add (.ix (.var 2) (.c (.str [114,111,119,115]))) (.lst [(.ix (.var 2) (.c (.str [110,101,119])))])),(.op .Add (.ix (.var 2) (.c (.str [103,105,118,101,110]))) (.ix (.var 2) (.c (.str [108,101,102,116])))),(.var 4),(.bi .sorted [(.ix (.var 2) (.c (.str [111,102,102])))])])
theorem QlR:b12=Qnv++[Qno,Qnp,.ret Ql6]:=rfl
theorem QpE{s:List U}{m:Nat}{a:U}{hs:Hs}:Qa (tb s) (m+1) 12 [a] hs=fin (exs (tb s) (Qa (tb s) m) dd b12 [some a,none,none,none,none] hs):=rfl
theorem Qjs(n:Nat):Ok (W0 n):=⟨fun p m=>by simp [W0]at m,by simp [W0],fun p m=>by simp [W0]at m⟩
theorem QbW:∀m i,(Qfj i m).length=m
 | 0,i=>rfl
 | m+1,i=>by simp [Qfj,QbW m (i+1)]
theorem QlY(n:Nat):sz (W0 n)=2*n+1:=by simp [sz,W0,szR,QaL,QbW];omega
theorem QeV(ns:List Int):(cel ns).length<=60:=by
 have:=QeO (xs:=ns) (a:=2) (b:=62) (by decide) (by decide)
 unfold cel;omega
theorem DR.rw{hs:Hs}{M:List Nat}{u:U}{a:List Lp}(h:DR hs M u a):DRw hs u a:=let ⟨i,us,e,h1,_,h3⟩:=h;⟨i,us,e,h1,h3⟩
theorem QlX{hs:Hs}{a b:Nat}{xs ys:List U}(ha:hs[a]?=some (.lst xs))(hb:hs[b]?=some (.lst ys))(l:xs.length+ys.length<=1000000):Qc0 (.ref a) (.ref b) hs=some (.ref hs.length,hs++[.lst (xs++ys)]):=by
 simp only [Qc0,ha,hb,Qme,l,if_true]
theorem QjP{T:Tbl}{cf:Cf}{d:Nat}{a b c e:E}{ρ:Rho}{h0 h1 h2 h3 h4:Hs}{u v w x:U}(ea:ev T cf d a ρ h0=some (u,h1))(eb:ev T cf d b ρ h1=some (v,h2))(ec:ev T cf d c ρ h2=some (w,h3))(ee:ev T cf d e ρ h3=some (x,h4)):ev T cf (d+1) (.tup [a,b,c,e]) ρ h0=some (.ref h4.length,h4++[.tup [u,v,w,x]]):=by
 simp only [ZP,evs,ea,eb,ec,ee,Qo]
theorem Qc7{T:Tbl}{cf:Cf}{d:Nat}{k r:U}{ρ:Rho}{h:Hs}{w:Nat}(h2:ρ[2]?=some (some (.ref w)))(e:QH T (.ref w) k h=some r):ev T cf (d+2) (.ix (.var 2) (.c k)) ρ h=some (r,h):=by
 simp only [Zq,Qi,h2,y_c,Qo,e,Option.map]
theorem Qmp{T:Tbl}{cf:Cf}{d:Nat}{hs:Hs}{q:Pl}{c:Ct}{W:Ws}{ρ:Rho}{kl:Nat}{rk:List U}(h:Web hs q c W)(l:sz W<100000)(lo:W.off.length<64)(r2:ρ[2]?=some (some (.ref q.w)))(r4:ρ[4]?=some (some (.ref kl)))(hk:hs[kl]?=some (.lst rk))(pk:PySem.Paired (DK hs) rk (Y7 W.kept ks4)):
  ∃z u,ev T cf (d+20) Ql6 ρ hs=some (u,hs++z)/\DW (hs++z) u (Qfs W):=by
 have hw:=h.mem (p:=(q.w,.dic (QK q))) (by simp [cells])
 have hr:=h.mem (p:=(q.r,.lst c.rr)) (by simp [cells])
 have hg:=h.mem (p:=(q.g,.lst c.gs)) (by simp [cells])
 have hn:=h.mem (p:=(q.n,.lst c.ns)) (by simp [cells])
 have ho:=h.mem (p:=(q.o,.lst c.os)) (by simp [cells])
 have hl:=h.rs.hl
 have lz:W.given.length<100000/\W.left.length<100000/\W.rows.length<100000:=by unfold sz at l;omega
 obtain⟨lz1,lz2,lz3⟩:=lz;have er:=Qg h.rs.rr;have eg:=Qg h.rs.gs;have el:=Qg h.rs.ls;have eo:=Qg h.rs.os;have g0:(hs++[O.lst [.ref q.n]])[hs.length]?=some (O.lst [.ref q.n]):=at0
 have a1:ev T cf (d+19) (.op .Add (.ix (.var 2) (.c (.str [114,111,119,115]))) (.lst [(.ix (.var 2) (.c (.str [110,101,119])))])) ρ hs=some (.ref (hs++[O.lst [.ref q.n]]).length,hs++[O.lst [.ref q.n]]++[O.lst (c.rr++[.ref q.n])]):=by
  refine Ql4 (Qc7 r2 (s_R hw)) (w:=.ref hs.length) (h2:=hs++[O.lst [.ref q.n]]) ?_ (show opU .Add _ _ _=_ from QlX (Qj hr) g0 (by simp;omega))
  rw [Zs];simp only [evs,Qc7 r2 (s_N hw),Qo]
 generalize e1:hs++[O.lst [.ref q.n]]++[O.lst (c.rr++[.ref q.n])]=h1 at a1
 have k1:∀{i:Nat} {o:O},hs[i]?=some o->h1[i]?=some o:=fun e=>by rw [<-e1,List.append_assoc];exact Qj e
 have a2:ev T cf (d+19) (.op .Add (.ix (.var 2) (.c (.str [103,105,118,101,110]))) (.ix (.var 2) (.c (.str [108,101,102,116])))) ρ h1=some (.ref h1.length,h1++[O.lst (c.gs++c.ls)]):=
  Ql4 (Qc7 r2 (s_G (k1 hw))) (Qc7 r2 (s_L (k1 hw))) (show opU .Add _ _ _=_ from QlX (k1 hg) (k1 hl) (by omega))
 have a3:ev T cf (d+19) (.var 4) ρ (h1++[O.lst (c.gs++c.ls)])=some (.ref kl,h1++[O.lst (c.gs++c.ls)]):=Yl r4;have tk:TK hs (h1++[O.lst (c.gs++c.ls)]):=fun i us e=>Qj (k1 e)
 obtain⟨vs,s1,s2⟩:=QhP (T:=T) (hs:=h1++[O.lst (c.gs++c.ls)]) (Qj (k1 ho)) (Qc (fun _ _=>DN.mono tk) h.rs.os) (by omega)
 have a4:ev T cf (d+19) (.bi .sorted [(.ix (.var 2) (.c (.str [111,102,102])))]) ρ (h1++[O.lst (c.gs++c.ls)])=some (.ref (h1++[O.lst (c.gs++c.ls)]).length,h1++[O.lst (c.gs++c.ls)]++[O.lst vs]):=by
  rw [Yy];simp only [evs,Qc7 r2 (s_O (Qj (k1 hw))),Qo,s1]
 have a5:=QjP a1 a2 a3 a4
 have eF:h1++[O.lst (c.gs++c.ls)]++[O.lst vs]++[O.tup [.ref (hs++[O.lst [.ref q.n]]).length,.ref h1.length,.ref kl,.ref (h1++[O.lst (c.gs++c.ls)]).length]]=hs++([O.lst [.ref q.n],O.lst (c.rr++[.ref q.n]),O.lst (c.gs++c.ls),O.lst vs]++[O.tup [.ref (hs++[O.lst [.ref q.n]]).length,.ref h1.length,.ref kl,.ref (h1++[O.lst (c.gs++c.ls)]).length]]):=by rw [<-e1];simp
 have kF:Kp h1 (h1++[O.lst (c.gs++c.ls)]++[O.lst vs]++[O.tup [.ref (hs++[O.lst [.ref q.n]]).length,.ref h1.length,.ref kl,.ref (h1++[O.lst (c.gs++c.ls)]).length]]):=fun p o e=>Qj (Qj (Qj e));have kH:Kp hs (h1++[O.lst (c.gs++c.ls)]++[O.lst vs]++[O.tup [.ref (hs++[O.lst [.ref q.n]]).length,.ref h1.length,.ref kl,.ref (h1++[O.lst (c.gs++c.ls)]).length]]):=fun p o e=>kF p o (k1 e)
 refine⟨_,_,(by rw [<-eF];exact a5),?_⟩
 rw [<-eF]
 refine⟨_,_,_,_,_,c.rr++[.ref q.n],c.gs++c.ls,rk,vs,rfl,at0,kF _ _ (by rw [<-e1];exact at0),Qj (Qj at0),kH _ _ hk,Qj at0,?_,?_,?_,?_⟩
 ·exact QC ⟨q.n,c.ns,rfl,kH _ _ hn,Qc (fun _ _=>DL.kp kH) h.rs.ns⟩ (Qc (fun _ _ z=>z.rw.kp kH) h.rs.rr)
 ·exact Jy (Qc (fun _ _=>DN.kp kH) h.rs.gs) (Qc (fun _ _=>DN.kp kH) h.rs.ls)
 ·exact Qc (fun _ _=>DK.kp kH) pk
 ·exact Qc (fun _ _ z=>Zh (Zh z)) s2
theorem Qmo{ns:List Int}{m:Nat}{hs:Hs}:∃hs' u,Qa (tb (ns.map fun n=>U.int n 0)) (m+4) 12 [.scr] hs=some (u,hs')/\Kp hs hs'/\DW hs' u (Qfs (Jb ns)):=by
 obtain⟨h1,w,g1,st1⟩:=QjK (ns:=ns) (m:=m+2) (d:=60) (hs:=hs) (rest:=[Qno,Qnp,.ret Ql6]);have es:(tb (ns.map fun n=>U.int n 0)).scr=ns.map fun n=>U.int n 0:=rfl;generalize hsn:(ns.map fun n=>U.int n 0)=s at g1 es ⊢
 have sl1:slU (tb s) .scr (some 2) (some 62) h1=some (.ref h1.length,h1++[O.lst ((cel ns).map fun n=>U.int n 0)]):=by
  rw [show slU (tb s) .scr (some 2) (some 62) h1=some (.ref h1.length,h1++[O.lst (Zi (tb s).scr (some 2) (some 62))])from rfl,es,<-hsn,Qjd];rfl
 have st2:=st1.add (x:=O.lst ((cel ns).map fun n=>U.int n 0));have lc:=QeV ns
 have lm:QU ns<9:=by have:=Int.emod_lt_of_pos (c0 ns) (show(0:Int) < 9 by decide);unfold QU;omega
 have z0:=QlY (QU ns)
 obtain⟨h2,o3,g2,st3⟩:=QcE (s:=s) (m:=m) (d:=65) (L:=h1.length) (X:=cel ns) (a:=some .scr) (b:=some (.int (QU ns) 0)) (.inr ⟨rfl,rfl⟩) (cel ns) 0 ((cel ns).length+1) _ _ none rfl st2 (Qjs _) (by omega) (by omega)
 have tk:=Ju (cel ns) (W0 (QU ns)) (Qjs _)
 have kp:Kp hs h2:=by
  obtain⟨q,c,hw,e,k⟩:=st3;exact fun p o e=>(k p o (.inl e)).1
 obtain⟨q,c,hw,rfl,k⟩:=st3;have eoff:(W0 (QU ns)).off.length=0:=rfl
 obtain⟨z,us,g3,p3⟩:=QeS (T:=tb s) (cf:=Qa (tb s) (m+3)) (d:=83) (X:=ks4) (a:=some .scr) (b:=some (.int (QU ns) 0)) (e:=o3) (f:=none) (by decide) ks4 0 5 [] [] h2 rfl hw (by simp [ks4]) (by simp [ks4]) .nil
 obtain⟨z2,u,g4,D⟩:=Qmp (T:=tb s) (cf:=Qa (tb s) (m+3)) (d:=73) (W:=(cel ns).foldl turn (W0 (QU ns))) (ρ:=[some .scr,some (.int (QU ns) 0),some (.ref q.w),o3,some (.ref (h2++z).length)]) (kl:=(h2++z).length) (rk:=us) ((hw.app (r:=z)).app (r:=[O.lst us])) (by omega) (by omega) rfl rfl at0 (Qc (fun _ _=>DK.kp (Kp.app _ _)) (by simpa using p3))
 refine⟨_,u,?_,kp.trans ((Kp.app _ _).trans ((Kp.app _ _).trans (Kp.app _ _))),D⟩;rw [QpE,QlR];show fin (exs (tb s) (Qa (tb s) (m+3)) (60+40) _ _ hs)=_;rw [g1]
 have sr:Ze (tb s) (ev (tb s) (Qa (tb s) (m+3)) 95) [some .scr,some (.int (QU ns) 0),some (.ref q.w),none,none] (.seq (.sl (.var 0) (some (.c (.int 2 0))) (some (.c (.int 62 0))))) h1=some (.seqL (.ref h1.length),h1++[O.lst ((cel ns).map fun n=>U.int n 0)]):=by
  generalize Qa (tb s) (m+3)=cf
  have k1:wkS (tb s) (.ref h1.length) (h1++[O.lst ((cel ns).map fun n=>U.int n 0)])=some (.seqL (.ref h1.length)):=by simp only [wkS,QA,at0]
  generalize tb s=T at sl1 k1 ⊢;simp only [Ze,Qjv,Qi,evO,y_c,Qo,List.getElem?_cons_zero,sl1,k1,Option.map]
 have tn:QZ (tb s) (.seqL (.ref h1.length)) (h1++[O.lst ((cel ns).map fun n=>U.int n 0)])=(cel ns).length+1:=by simp only [QZ,QA,at0,Option.getD_some,List.length_map]
 have x1:ex (tb s) (Qa (tb s) (m+3)) 96 Qno [some .scr,some (.int (QU ns) 0),some (.ref q.w),none,none] h1=some (.next,[some .scr,some (.int (QU ns) 0),some (.ref q.w),o3,none],h2):=ZF (t:=.name 3) (body:=bdW) sr (by rw [tn];exact g2)
 have s2:Ze (tb s) (ev (tb s) (Qa (tb s) (m+3)) 93) [some .scr,some (.int (QU ns) 0),some (.ref q.w),o3,none] (.seq (.c (.str [119,120,121,122]))) h2=some (.strW [119,120,121,122],h2):=by
  generalize Qa (tb s) (m+3)=cf;generalize tb s=T;simp only [Ze,y_c,Qo];rfl
 have x2:ex (tb s) (Qa (tb s) (m+3)) 95 Qnp [some .scr,some (.int (QU ns) 0),some (.ref q.w),o3,none] h2=some (.next,[some .scr,some (.int (QU ns) 0),some (.ref q.w),o3,some (.ref (h2++z).length)],h2++z++[O.lst us]):=Yk (i:=4) (Jc s2 g3);rw [Qn x1,Qn x2];show fin (exs (tb s) (Qa (tb s) (m+3)) 95 [.ret Ql6] _ _)=_;rw [QL,Qfm,g4];rfl
section
variable {T:Tbl}{hs:Hs}
theorem Zp{i n:Nat}{us:List U}(h:hs[i]?=some (.lst us))(k:us.all (fun x=>okW T n x hs)=true):okW T (n+1) (.ref i) hs=true:=by simp only [okW,QA,h,k]
theorem Jg{i n:Nat}{us:List U}(h:hs[i]?=some (.tup us))(k:us.all (fun x=>okW T n x hs)=true):okW T (n+1) (.ref i) hs=true:=by simp only [okW,QA,Ym,h,k]
theorem ZK{i j n:Nat}{us vs:List U}(h:hs[i]?=some (.lst us))(h':hs[j]?=some (.lst vs))(l:us.length=vs.length)(k:(us.zip vs).all (fun p=>eqW T n p.1 p.2 hs)=true):eqW T (n+1) (.ref i) (.ref j) hs=true:=by
 simp only [eqW,QA,h,h',k,l,BEq.rfl,Bool.and_self]
theorem YU{i j n:Nat}{us vs:List U}(h:hs[i]?=some (.tup us))(h':hs[j]?=some (.tup vs))(l:us.length=vs.length)(k:(us.zip vs).all (fun p=>eqW T n p.1 p.2 hs)=true):eqW T (n+1) (.ref i) (.ref j) hs=true:=by
 simp only [eqW,QA,Ym,h,h',k,l,BEq.rfl,Bool.and_self]
theorem Qg2{n:Nat}{x:Int}:okW T (n+1) (.int x 0) hs=true:=rfl
theorem QeF{n:Nat}{x:Int}:eqW T (n+1) (.int x 0) (.int x 0) hs=true:=by
 show(x==x)=true;simp
theorem Zc{α:Type}{P:U->α->Prop}{n:Nat}(f:∀u a,P u a->okW T n u hs=true):∀{us:List U} {as:List α},PySem.Paired P us as->us.all (fun x=>okW T n x hs)=true
 | _,_,.nil=>rfl
 | _,_,.cons h t=>by rw [List.all_cons,f _ _ h,Zc f t];rfl
theorem ZV{α:Type}{P:U->α->Prop}{n:Nat}(f:∀u v a,P u a->P v a->eqW T n u v hs=true):∀{us vs:List U} {as:List α},PySem.Paired P us as->PySem.Paired P vs as->us.length=vs.length/\(us.zip vs).all (fun p=>eqW T n p.1 p.2 hs)=true
 | _,_,_,.nil,.nil=>⟨rfl,rfl⟩
 | _,_,_,.cons h t,.cons h' t'=>by
  obtain⟨a,b⟩:=ZV f t t';rw [List.zip_cons_cons,List.all_cons,f _ _ _ h h',b]
  exact⟨by simp [a],rfl⟩
theorem Qaz{n:Nat}{u:U}{a:Nm}(h:DN hs u a):okW T (n+2) u hs=true:=by
 obtain⟨i,rfl,h⟩:=h
 exact Jg h (by simp [Qg2])
theorem QeH{n:Nat}{u v:U}{a:Nm}(h:DN hs u a)(h':DN hs v a):eqW T (n+2) u v hs=true:=by
 obtain⟨i,rfl,h⟩:=h;obtain⟨j,rfl,h'⟩:=h'
 exact YU h h' rfl (by simp [QeF])
theorem QnL{n:Nat}{u:U}{a:Lp}(h:DL hs u a):okW T (n+4) u hs=true:=by
 obtain⟨i,j,us,rfl,h1,h2,h3⟩:=h
 exact Jg h1 (by simp only [List.all_cons,List.all_nil,Qg2,Jg (n:=n+2) h2 (Zc (fun _ _=>Qaz) h3),Bool.and_self])
theorem QnM{n:Nat}{u v:U}{a:Lp}(h:DL hs u a)(h':DL hs v a):eqW T (n+4) u v hs=true:=by
 obtain⟨i,j,us,rfl,h1,h2,h3⟩:=h;obtain⟨i',j',us',rfl,h1',h2',h3'⟩:=h';have:=ZV (P:=DN hs) (T:=T) (n:=n+2) (fun _ _ _=>QeH) h3 h3'
 exact YU h1 h1' rfl (by simp only [List.zip_cons_cons,List.zip_nil_right,List.all_cons,List.all_nil,QeF,YU (n:=n+2) h2 h2' this.1 this.2,Bool.and_self])
theorem QlA{n:Nat}{u:U}{a:List Lp}(h:DRw hs u a):okW T (n+5) u hs=true:=by
 obtain⟨i,us,rfl,h1,h2⟩:=h;exact Zp h1 (Zc (fun _ _=>QnL) h2)
theorem QnK{n:Nat}{u v:U}{a:List Lp}(h:DRw hs u a)(h':DRw hs v a):eqW T (n+5) u v hs=true:=by
 obtain⟨i,us,rfl,h1,h2⟩:=h;obtain⟨i',us',rfl,h1',h2'⟩:=h';have:=ZV (P:=DL hs) (T:=T) (n:=n+4) (fun _ _ _=>QnM) h2 h2';exact ZK h1 h1' this.1 this.2
theorem QlB{n:Nat}{u:U}{a:U×List Nm}(h:DK hs u a):okW T (n+4) u hs=true:=by
 obtain⟨i,j,vs,rfl,h1,h2,h3,c,e,lc⟩:=h;rw [e]at h1
 have k:okW T (n+3) (.str [c]) hs=true:=by
  show([c].all fun c=>decide (c<128))=true;simp [lc]
 exact Jg h1 (by simp only [List.all_cons,List.all_nil,k,Zp (n:=n+2) h2 (Zc (fun _ _=>Qaz) h3),Bool.and_self])
theorem QnN{n:Nat}{u v:U}{a:U×List Nm}(h:DK hs u a)(h':DK hs v a):eqW T (n+4) u v hs=true:=by
 obtain⟨i,j,vs,rfl,h1,h2,h3,c,e,lc⟩:=h;obtain⟨i',j',vs',rfl,h1',h2',h3',c',e',lc'⟩:=h';rw [e]at h1 h1'
 have k:eqW T (n+3) (.str [c]) (.str [c]) hs=true:=by
  show([c]==[c])=true;simp
 have:=ZV (P:=DN hs) (T:=T) (n:=n+2) (fun _ _ _=>QeH) h3 h3'
 exact YU h1 h1' rfl (by simp only [List.zip_cons_cons,List.zip_nil_right,List.all_cons,List.all_nil,k,ZK (n:=n+2) h2 h2' this.1 this.2,Bool.and_self])
theorem Qly{u v:U}{D:Wb}(h:DW hs u D)(h':DW hs v D):eqA T u v hs=some true:=by
 obtain⟨i,a,b,k,o,ra,rb,rk,ro,rfl,h1,h2,h3,h4,h5,h6,h7,h8,h9⟩:=h;obtain⟨i',a',b',k',o',ra',rb',rk',ro',rfl,h1',h2',h3',h4',h5',h6',h7',h8',h9'⟩:=h'
 have ok1:okW T 20 (.ref i) hs=true:=Jg h1 (by
  simp only [List.all_cons,List.all_nil,Zp (n:=18) h2 (Zc (fun _ _=>QlA) h6),Zp (n:=18) h3 (Zc (fun _ _=>Qaz) h7),Zp (n:=18) h4 (Zc (fun _ _=>QlB) h8),Zp (n:=18) h5 (Zc (fun _ _=>Qaz) h9),Bool.and_self])
 have ok2:okW T 20 (.ref i') hs=true:=Jg h1' (by
  simp only [List.all_cons,List.all_nil,Zp (n:=18) h2' (Zc (fun _ _=>QlA) h6'),Zp (n:=18) h3' (Zc (fun _ _=>Qaz) h7'),Zp (n:=18) h4' (Zc (fun _ _=>QlB) h8'),Zp (n:=18) h5' (Zc (fun _ _=>Qaz) h9'),Bool.and_self])
 have e1:=ZV (P:=DRw hs) (T:=T) (n:=18) (fun _ _ _=>QnK) h6 h6';have e2:=ZV (P:=DN hs) (T:=T) (n:=18) (fun _ _ _=>QeH) h7 h7';have e3:=ZV (P:=DK hs) (T:=T) (n:=18) (fun _ _ _=>QnN) h8 h8';have e4:=ZV (P:=DN hs) (T:=T) (n:=18) (fun _ _ _=>QeH) h9 h9'
 have ee:eqW T 20 (.ref i) (.ref i') hs=true:=YU h1 h1' rfl (by
  simp only [List.zip_cons_cons,List.zip_nil_right,List.all_cons,List.all_nil,ZK (n:=18) h2 h2' e1.1 e1.2,ZK (n:=18) h3 h3' e2.1 e2.2,ZK (n:=18) h4 h4' e3.1 e3.2,ZK (n:=18) h5 h5' e4.1 e4.2,Bool.and_self])
 have l1:Y5 T (.ref i) (.ref i') hs=false:=by simp only [Y5,QA,h1,h1']
 have l2:QaT T (.ref i) (.ref i') hs=false:=by simp only [QaT,QA,h1,h1']
 simp only [eqA,Qgp,l1,l2,ok1,ok2,ee,Bool.and_self,if_true,Bool.false_eq_true,if_false]
theorem Qng{i j:Nat}{us vs:List U}{nms:List Nm}(h:hs[i]?=some (.lst us))(h':hs[j]?=some (.lst vs))(p:PySem.Paired (DN hs) us nms)(p':PySem.Paired (DN hs) vs nms):eqA T (.ref i) (.ref j) hs=some true:=by
 have e1:=ZV (P:=DN hs) (T:=T) (n:=19) (fun _ _ _=>QeH) p p'
 have l1:Y5 T (.ref i) (.ref j) hs=false:=by simp [Y5,QA,h,h',e1.1]
 have ok1:okW T 20 (.ref i) hs=true:=Zp h (Zc (fun _ _=>Qaz) p);have ok2:okW T 20 (.ref j) hs=true:=Zp h' (Zc (fun _ _=>Qaz) p');have ee:eqW T 20 (.ref i) (.ref j) hs=true:=ZK h h' e1.1 e1.2;simp only [eqA,Qgp,l1,ok1,ok2,ee,Bool.and_self,if_true,Bool.false_eq_true,if_false];split<;>rfl
end
theorem Qht{TT:Tbl}{cf:Cf}{d:Nat}{src:Src}{t:Option E}{el:E}{ρ:Rho}{h h1 h2:Hs}{w:Wk}{us:List U}{b:Bool}(es:Ze TT (ev TT cf d) ρ src h=some (w,h1))(ec:QQ TT (ev TT cf d) (Z4 (evT TT cf d) t) w b el ρ (QZ TT w h1) 0 [] h1=some (us,h2)):ev TT cf (d+1) (.comp src b t el) ρ h=some (.ref h2.length,h2++[.lst us]):=by
 rw [QgG,es,Qo,ec,Qo]
theorem JU{TT:Tbl}{cf:Cf}{d:Nat}{a:E}{ρ:Rho}{h h1:Hs}{u:U}(e:ev TT cf d a ρ h=some (u,h1)):fin (exs TT cf (d+2) [.ret a] ρ h)=some (u,h1):=by
 rw [QL,Qfm,e];rfl
theorem Qi4{T:Tbl}{hs:Hs}{u:U}{D:Wb}(h:DW hs u D):∃a ra,QH T u (.int 0 0) hs=some (.ref a)/\hs[a]?=some (.lst ra)/\PySem.Paired (DRw hs) ra D.rows:=by
 obtain⟨i,a,b,k,o,ra,rb,rk,ro,rfl,h1,h2,h3,h4,h5,h6,h7,h8,h9⟩:=h
 exact⟨a,ra,by simp only [QH,h1];exact Qcj (i:=0) rfl,h2,h6⟩
theorem Qnr{T:Tbl}{x:Int}{hs:Hs}:QcZ T .int (.int x 0) hs=some true:=rfl
theorem Qns{T:Tbl}{x:Int}{hs:Hs}:QcZ T .bool (.int x 0) hs=some false:=rfl
theorem QgX:∀ns:List Int,PySem.Paired (fun(u:U) (i:Int)=>∃r m,u=.int r m/\∃q:Int,i=r+m*q) (ns.map fun i=>U.int i 0) ns
 | []=>.nil
 | n::r=>.cons ⟨n,0,rfl,0,by simp⟩ (QgX r)
theorem cl3{s:List U}{m:Nat}{a:U}{hs:Hs}:Qa (tb s) (m+1) 3 [a] hs=fin (exs (tb s) (Qa (tb s) m) dd b3 [some a] hs):=rfl
theorem cl4{s:List U}{m:Nat}{a:U}{hs:Hs}:Qa (tb s) (m+1) 4 [a] hs=fin (exs (tb s) (Qa (tb s) m) dd b4 [some a] hs):=rfl
theorem cl5{s:List U}{m:Nat}{a:U}{hs:Hs}:Qa (tb s) (m+1) 5 [a] hs=fin (exs (tb s) (Qa (tb s) m) dd b5 [some a] hs):=rfl
theorem Qe0{s:List U}{m:Nat}{x:Int}{hs:Hs}:Qa (tb s) (m+1) 3 [.int x 0] hs=some (.bl true,hs):=by
 rw [cl3];refine JU (d:=98) ?_;generalize Qa (tb s) m=cf;generalize tb s=T;simp only [Qfo,Qfn,Qi,Qmm,Qo,List.getElem?_cons_zero,Qnr,Qns,Option.map,Zj,Bool.not_false]
theorem QlJ{s:List U}{m:Nat}{hs:Hs}{u:U}{a:Nm}(h:DN hs u a):Qa (tb s) (m+2) 4 [u] hs=some (.bl true,hs):=by
 obtain⟨i,rfl,h⟩:=h;have w1:=Qe0 (s:=s) (m:=m) (x:=a.1) (hs:=hs);have w2:=Qe0 (s:=s) (m:=m) (x:=a.2) (hs:=hs);rw [cl4];refine JU (d:=98) ?_
 have i1:QcZ (tb s) .tuple (.ref i) hs=some true:=by simp only [QcZ,Qa8,h];rfl
 have l1:biU (tb s) .len [.ref i] hs=some (.int 2 0,hs):=by unfold biU;simp only [ZN,h];rfl
 have s1:QH (tb s) (.ref i) (.int 0 0) hs=some (.int a.1 0):=by simp only [QH,h];exact Qcj (i:=0) rfl
 have s2:QH (tb s) (.ref i) (.int 1 0) hs=some (.int a.2 0):=by simp only [QH,h];exact Qcj (i:=1) rfl
 generalize Qa (tb s) (m+1)=cf at w1 w2 ⊢;generalize tb s=T at i1 l1 s1 s2 ⊢;simp only [Qfo,Qfn,Qi,Q6,Yy,evs,y_c,QY,Zq,Qo,List.getElem?_cons_zero,i1,l1,s1,s2,w1,w2,Option.map,Zn,eq_int,decide_true]
theorem QeQ{s:List U}{m d p:Nat}{us:List U}{hs:Hs}(hp:hs[p]?=some (.lst us)):∀(vs:List U) (nms:List Nm) (i k:Nat),us.drop i=vs->PySem.Paired (DN hs) vs nms->vs.length<k ->
  QQ (tb s) (ev (tb s) (Qa (tb s) (m+2)) (d+10)) (Z4 (evT (tb s) (Qa (tb s) (m+2)) (d+10)) (some (.not (.call 4 [(.var 1)])))) (.seqL (.ref p)) false (.var 1) [some (.ref p)] k i [] hs=some ([],hs):=by
 intro vs
 induction vs with
 | nil =>
  intro nms i k hd pr lk
  cases k with
  | zero=>simp at lk
  | succ k =>
   have e:us[i]?=none:=by rw [List.getElem?_eq_none_iff];exact List.drop_eq_nil_iff.mp hd
   simp [QQ,itm,QA,hp,e]
 | cons v vs ih =>
  intro nms i k hd pr lk
  cases pr with
  | cons dv pr =>
   cases k with
   | zero=>simp at lk
   | succ k =>
    have e:us[i]?=some v:=by
     have:=List.getElem?_drop (xs:=us) (i:=i) (j:=0);rw [hd]at this;simpa using this.symm
    have hd':us.drop (i+1)=vs:=by rw [<-List.drop_drop,hd];rfl
    have g:=ih _ (i+1) k hd' pr (by simpa using lk)
    have cn:=QlJ (s:=s) (m:=m) dv;rw [QQ];generalize Qa (tb s) (m+2)=cf at cn g ⊢;generalize tb s=T at g ⊢
    simp only [itm,QA,hp,e,Option.map,tgt,tgN,QcY,List.length_nil,show(0:Nat) < 1000000 by decide,if_true,Z4,Qbt,QaM,QY,evs,Qi,Qo,List.length_cons,Nat.zero_add,List.cons_append,List.nil_append,List.set_cons_succ,List.set_cons_zero,List.getElem?_cons_succ,List.getElem?_cons_zero,Bool.false_eq_true,if_false,cn,Zj,Bool.not_true]
    exact g
theorem Qgy{s:List U}{m p:Nat}{hs:Hs}{us:List U}{nms:List Nm}(hp:hs[p]?=some (.lst us))(pn:PySem.Paired (DN hs) us nms):Qa (tb s) (m+3) 5 [.ref p] hs=some (.bl true,hs++[O.lst [],O.lst []]):=by
 rw [cl5];refine JU (d:=98) ?_
 have i1:QcZ (tb s) .list (.ref p) hs=some true:=by simp only [QcZ,Qa8,hp];rfl
 have cn:=QeQ (s:=s) (m:=m) (d:=85) hp us nms 0 (us.length+1) rfl pn (by omega)
 have sr:Ze (tb s) (ev (tb s) (Qa (tb s) (m+2)) 95) [some (.ref p)] (.seq (.var 0)) hs=some (.seqL (.ref p),hs):=by
  have k1:wkS (tb s) (.ref p) hs=some (.seqL (.ref p)):=by simp only [wkS,QA,hp]
  generalize Qa (tb s) (m+2)=cf;generalize tb s=T at k1 ⊢;simp only [Ze,Qi,List.getElem?_cons_zero,Qo,k1,Option.map]
 have tn:QZ (tb s) (.seqL (.ref p)) hs=us.length+1:=by simp only [QZ,QA,hp,Option.getD_some]
 have vc:=Qht (d:=95) sr (by rw [tn];exact cn)
 have eq:=JI (T:=tb s) (hs:=hs++[O.lst [],O.lst []]) (p:=hs.length) (e:=hs.length+1) (xs:=[]) at0 (by rw [List.getElem?_append_right (by omega)];simp)
 generalize Qa (tb s) (m+2)=cf at vc ⊢;generalize tb s=T at i1 vc eq ⊢
 have a1:ev T cf 97 (.cmp .Eq (.comp (.seq (.var 0)) false (some (.not (.call 4 [(.var 1)]))) (.var 1)) (.lst [])) [some (.ref p)] hs=some (.bl true,hs++[O.lst [],O.lst []]):=by
  refine Qmu (d:=96) vc (w:=.ref (hs.length+1)) (h2:=hs++[O.lst [],O.lst []]) ?_ (by simpa [Zn]using eq)
  simp [Zs,evs,Qo]
 simp only [b5,Qfo,Qfn,Qi,Qo,List.getElem?_cons_zero,i1,Option.map];exact a1
noncomputable def Qa6(rows:List (List Lp))(r:Int):Nat:=(rows.getD r.toNat []).length
noncomputable def Vn(rows:List (List Lp))(a:Nm):Prop:=0<=a.1/\a.1<rows.length/\0<=a.2/\a.2<Qa6 rows a.1
noncomputable def Grow(R R':List (List Lp)):Prop:=R.length<=R'.length/\∀r,Qa6 R r<=Qa6 R' r
theorem Vn.mono{R R':List (List Lp)}{a:Nm}(h:Vn R a)(g:Grow R R'):Vn R' a:=⟨h.1,by have:=h.2.1;have:=g.1;omega,h.2.2.1,by have:=h.2.2.2;have:=g.2 a.1;omega⟩
theorem Grow.refl{R:List (List Lp)}:Grow R R:=⟨Nat.le_refl _,fun _=>Nat.le_refl _⟩
theorem Z1{α:Type}{d:α}{R S:List α}{n:Nat}:(R++S).getD n d=if n<R.length then R.getD n d else S.getD (n-R.length) d:=by
 simp only [List.getD_eq_getElem?_getD,List.getElem?_append];split<;>rfl
theorem Qb9{rows:List (List Lp)}{new:List Lp}{lp:Lp}:Grow (rows++[new]) (rows++[new++[lp]]):=by
 refine⟨by simp,fun r=>?_⟩
 unfold Qa6;rw [Z1,Z1];split
 ·exact Nat.le_refl _
 ·cases h:r.toNat-rows.length with
  | zero=>simp
  | succ k=>simp
theorem Qgi{rows:List (List Lp)}{new:List Lp}:Grow (rows++[new]) (rows++[new]++[[]]):=by
 refine⟨by simp,fun r=>?_⟩
 unfold Qa6;rw [Z1 (S:=[[]])];split
 ·exact Nat.le_refl _
 ·rename_i h
  rw [List.getD_eq_getElem?_getD,List.getElem?_eq_none (by omega)]
  simp
structure VW(W:Ws):Prop where
 left:∀a∈W.left,Vn (W.rows++[W.new]) a
 given:∀a∈W.given,Vn (W.rows++[W.new]) a
 off:∀a∈W.off,Vn (W.rows++[W.new]) a
 kept:∀p∈W.kept,∀a∈p.2,Vn (W.rows++[W.new]) a
 rows:∀row∈W.rows++[W.new],∀lp∈row,∀a∈lp.ps,Vn (W.rows++[W.new]) a
 ps:∀row∈W.rows++[W.new],∀lp∈row,lp.ps.length<=8
theorem Ys{W:Ws}{nms:List Nm}{x z:Int}(h:VW W)(hn:∀a∈nms,Vn (W.rows++[W.new]) a)(h8:nms.length<=8):VW (Q8 W nms x z):=by
 have g:Grow (W.rows++[W.new]) ((Q8 W nms x z).rows++[(Q8 W nms x z).new]):=Qb9;refine⟨fun a m=>(h.left a m).mono g,fun a m=>?_,fun a m=>(h.off a m).mono g,fun p mp a m=>(h.kept p mp a m).mono g,fun row mr lp ml a m=>?_,fun row mr lp ml=>?_⟩
 ·rcases List.mem_append.mp m with m | m
  ·exact(h.given a m).mono g
  ·rw [List.mem_singleton.mp m]
   refine⟨by simp,by simp [Q8];omega,by simp,?_⟩
   unfold Qa6;simp only [Q8,Int.toNat_natCast]
   rw [Z1,if_neg (by omega)]
   simp;omega
 ·rcases List.mem_append.mp mr with mr | mr
  ·exact(h.rows row (List.mem_append_left _ mr) lp ml a m).mono g
  ·rw [List.mem_singleton.mp mr]at ml
   rcases List.mem_append.mp ml with ml | ml
   ·exact(h.rows W.new (List.mem_append_right _ (by simp)) lp ml a m).mono g
   ·rw [List.mem_singleton.mp ml]at m;exact(hn a m).mono g
 ·rcases List.mem_append.mp mr with mr | mr
  ·exact h.ps row (List.mem_append_left _ mr) lp ml
  ·rw [List.mem_singleton.mp mr]at ml
   rcases List.mem_append.mp ml with ml | ml
   ·exact h.ps W.new (List.mem_append_right _ (by simp)) lp ml
   ·rw [List.mem_singleton.mp ml];exact h8
theorem QgH{W:Ws}(h:VW W):VW (Q1 W):=by
 have g:Grow (W.rows++[W.new]) ((Q1 W).rows++[(Q1 W).new]):=Qgi
 refine⟨fun a m=>(h.given a m).mono g,fun a m=>by simp [Q1]at m,fun a m=>(h.off a m).mono g,fun p mp a m=>(h.kept p mp a m).mono g,fun row mr lp ml a m=>?_,fun row mr lp ml=>?_⟩
 ·rcases List.mem_append.mp mr with mr | mr
  ·exact(h.rows row mr lp ml a m).mono g
  ·rw [List.mem_singleton.mp mr]at ml;simp [Q1]at ml
 ·rcases List.mem_append.mp mr with mr | mr
  ·exact h.ps row mr lp ml
  ·rw [List.mem_singleton.mp mr]at ml;simp [Q1]at ml
theorem Qaq{k:U}{a:Nm}{Q:Nm->Prop}:∀{kp:List (U×List Nm)},(∀p∈kp,∀b∈p.2,Q b)->Q a->∀p∈Zv kp k a,∀b∈p.2,Q b
 | [],_,ha,p,mp,b,mb=>by
  rw [List.mem_singleton.mp mp]at mb;rw [List.mem_singleton.mp mb];exact ha
 | (k',l)::r,h,ha,p,mp,b,mb=>by
  unfold Zv at mp;split at mp
  ·rcases List.mem_cons.mp mp with rfl | mp
   ·rcases List.mem_append.mp mb with mb | mb
    ·exact h (k',l) List.mem_cons_self b mb
    ·rw [List.mem_singleton.mp mb];exact ha
   ·exact h p (List.mem_cons_of_mem _ mp) b mb
  ·rcases List.mem_cons.mp mp with rfl | mp
   ·exact h (k',l) List.mem_cons_self b mb
   ·exact Qaq (fun p m=>h p (List.mem_cons_of_mem _ m)) ha p mp b mb
theorem QjM{W:Ws}{a:Nm}{x:Int}(h:VW W)(ha:Vn (W.rows++[W.new]) a):VW (Zu W a x):=by
 unfold Zu;split
 ·exact⟨h.left,h.given,h.off,Qaq h.kept ha,h.rows,h.ps⟩
 ·refine⟨h.left,h.given,fun b m=>?_,h.kept,h.rows,h.ps⟩
  rcases List.mem_append.mp m with m | m
  ·exact h.off b m
  ·rw [List.mem_singleton.mp m];exact ha
structure VG(W W':Ws):Prop where
 v:VW W'
 g:Grow (W.rows++[W.new]) (W'.rows++[W'.new])
theorem Grow.trans{a b c:List (List Lp)}(h:Grow a b)(h':Grow b c):Grow a c:=⟨Nat.le_trans h.1 h'.1,fun r=>Nat.le_trans (h.2 r) (h'.2 r)⟩
theorem Qbv{W:Ws}{nms:List Nm}{x z:Int}(h:VW W)(hn:∀a∈nms,Vn (W.rows++[W.new]) a)(h8:nms.length<=8):VG W (Q8 W nms x z):=⟨Ys h hn h8,Qb9⟩
theorem Qbw{x z:Int}:∀{nms:List Nm} {W:Ws},VW W->(∀a∈nms,Vn (W.rows++[W.new]) a)->VG W (QI W nms x z)
 | [],W,h,_=>⟨h,Grow.refl⟩
 | a::r,W,h,hn=>by
  have g:=Qbv (x:=x) (z:=z) h (nms:=[a]) (fun b m=>by rw [List.mem_singleton.mp m];exact hn a List.mem_cons_self) (by simp)
  have:=Qbw (x:=x) (z:=z) (nms:=r) g.v fun b m=>(hn b (List.mem_cons_of_mem _ m)).mono g.g;exact⟨this.v,g.g.trans this.g⟩
theorem QgI{nms:List Nm}{y:Int}(h8:nms.length<=8):∀(m i:Nat) {W:Ws},VW W->(∀a∈nms,Vn (W.rows++[W.new]) a)->VG W (gvN W nms y i m)
 | 0,i,W,h,_=>⟨h,Grow.refl⟩
 | m+1,i,W,h,hn=>by
  have g:=Qbv (x:=y+(i:Int)) (z:=0) h hn h8;have:=QgI (y:=y) h8 m (i+1) g.v fun b mb=>(hn b mb).mono g.g;exact⟨this.v,g.g.trans this.g⟩
theorem Qcp{W:Ws}{nms:List Nm}{x:Int}(h:VW W)(hn:∀a∈nms,Vn (W.rows++[W.new]) a):VW (ZM W nms x):=by
 have g:=Qbw (x:=x / 14) (z:=0-Yp x) (nms:=nms.drop (nms.length / 2)) h fun a m=>hn a (List.mem_of_mem_drop m);exact(Qbw (x:=x / 14) (z:=Yp x) (nms:=nms.take (nms.length / 2)) g.v fun a m=>(hn a (List.mem_of_mem_take m)).mono g.g).v
theorem Qfv{W:Ws}{nms:List Nm}{x:Int}(h:VW W)(hn:∀a∈nms,Vn (W.rows++[W.new]) a)(h8:nms.length<=8):VW (Za W nms x):=by
 cases nms with
 | nil=>simp only [Za];exact Ys h hn h8
 | cons a r =>
  simp only [Za];have ha:=hn a List.mem_cons_self;split
  ·refine⟨h.left,fun b m=>?_,h.off,h.kept,h.rows,h.ps⟩
   rcases List.mem_append.mp m with m | m
   ·exact h.given b m
   ·rw [List.mem_singleton.mp m];exact ha
  ·split
   ·exact Ys h (fun b m=>hn b (List.mem_reverse.mp m)) (by rw [List.length_reverse];exact h8)
   ·split
    ·exact(QgI h8 _ _ h hn).v
    ·split
     ·exact QjM h ha
     ·split
      ·exact Qcp h hn
      ·exact Ys h hn h8
theorem Qhs{W:Ws}{x:Int}(h:VW W):VW (step W x):=by
 unfold step
 refine Qfv (W:=Y2 W x) ⟨fun a m=>h.left a (List.mem_of_mem_drop m),h.given,h.off,h.kept,h.rows,h.ps⟩ (fun a m=>h.left a (List.mem_of_mem_take m)) (by have:=Jw x;rw [List.length_take];omega)
theorem ZI{gk:Gk}{r:Nat}{a:Nm}:∀{m i:Nat},a∈QN gk r i m->a.1=r/\(i:Int)<=a.2/\a.2<i+m
 | 0,i,h=>by simp [QN]at h
 | m+1,i,h=>by
  unfold QN at h;split at h
  ·have:=ZI h;omega
  ·rcases List.mem_cons.mp h with rfl | h
   ·exact⟨rfl,Int.le_refl _,by show(i:Int) < _;omega⟩
   ·have:=ZI h;omega
theorem Jl{gk:Gk}{a:Nm}:∀{rows:List (List Lp)} {r:Nat},a∈Zw gk r rows->(r:Int)<=a.1/\a.1<r+rows.length/\0<=a.2/\a.2<Qa6 rows (a.1-r)
 | [],r,h=>by simp [Zw]at h
 | row::rows,r,h=>by
  unfold Zw at h
  rcases List.mem_append.mp h with h | h
  ·have:=ZI h
   refine⟨by omega,by simp;omega,by omega,?_⟩
   have e:a.1-(r:Int)=0:=by omega
   rw [e];show a.2<((row::rows).getD 0 []).length;simp;omega
  ·have ih:=Jl h
   refine⟨by omega,by simp;omega,ih.2.2.1,?_⟩
   have e:Qa6 (row::rows) (a.1-(r:Int))=Qa6 rows (a.1-((r+1:Nat):Int)):=by
    unfold Qa6
    have:(a.1-(r:Int)).toNat=(a.1-((r+1:Nat):Int)).toNat+1:=by omega
    rw [this];simp
   rw [e];exact ih.2.2.2
theorem Qjc{α:Type}{xs:List α}{a b:Option Int}{x:α}(h:x∈Zi xs a b):x∈xs:=by
 unfold Zi at h;exact List.mem_of_mem_drop (List.mem_of_mem_take h)
theorem Qc5{W:Ws}{x:Int}(h:VW W):VW (YK W x):=by
 unfold YK;refine(Qbw h fun a m=>?_).v;have h1:=Jl (Qjc m)
 refine⟨by omega,by simp;omega,h1.2.2.1,?_⟩
 have e:Qa6 (W.rows++[W.new]) a.1=Qa6 W.rows (a.1-((0:Nat):Int)):=by
  unfold Qa6
  have:(a.1-((0:Nat):Int))=a.1:=by omega
  rw [this,Z1,if_pos (by omega)]
 rw [e];exact h1.2.2.2
theorem Qhr{W:Ws}{x:Int}(h:VW W):VW (turn W x):=by
 have h1:VW (ZH W x):=by
  unfold ZH;split
  ·exact Qc5 (QgH h)
  ·exact h
 have h2:VW (Y1 (ZH W x)):=by
  unfold Y1;split
  ·exact QgH h1
  ·exact h1
 exact Qhs h2
theorem Qbu:∀(vs:List Int) {W:Ws},VW W->VW (vs.foldl turn W)
 | [],W,h=>h
 | v::vs,W,h=>Qbu vs (Qhr h)
theorem QbV{a:Nm}:∀{m i:Nat},a∈Qfj i m->a.1=0/\(i:Int)<=a.2/\a.2<i+m
 | 0,i,h=>by simp [Qfj]at h
 | m+1,i,h=>by
  unfold Qfj at h
  rcases List.mem_cons.mp h with rfl | h
  ·exact⟨rfl,Int.le_refl _,by show(i:Int) < _;omega⟩
  ·have:=QbV h;omega
theorem Qhq(n:Nat):VW (W0 n):=by
 refine⟨fun a m=>?_,fun a m=>by simp [W0]at m,fun a m=>by simp [W0]at m,fun p m=>by simp [W0]at m,fun row mr lp ml a m=>?_,fun row mr lp ml=>?_⟩
 ·have:=QbV m
  refine⟨by omega,by simp [W0];omega,by omega,?_⟩
  unfold Qa6;rw [this.1];simp [W0];omega
 ·simp only [W0,List.cons_append,List.nil_append,List.mem_cons,List.not_mem_nil,or_false]at mr
  rcases mr with rfl | rfl
  ·rw [List.eq_of_mem_replicate ml]at m;simp [lp0]at m
  ·simp at ml
 ·simp only [W0,List.cons_append,List.nil_append,List.mem_cons,List.not_mem_nil,or_false]at mr
  rcases mr with rfl | rfl
  ·rw [List.eq_of_mem_replicate ml];simp [lp0]
  ·simp at ml
theorem QjL(ns:List Int):VW (Jb ns):=Qbu _ (Qhq _)
theorem Qd9{T:Tbl}{w:Wk}{t:Tg}{body:Ex}(I:Nat->Rho->Hs->Prop){n:Nat}
  (st:∀i,i<n->∀ρ hs,I i ρ hs->∃x ρ' ρ2 h2,itm T w i hs=some (some x)/\tgt t x ρ hs=some ρ'/\body ρ' hs=some (.next,ρ2,h2)/\I (i+1) ρ2 h2)
  (en:∀ρ hs,I n ρ hs->itm T w n hs=some none):
  ∀(m i k:Nat) (ρ:Rho) (hs:Hs),n=i+m->m<k->I i ρ hs->∃ρ2 h2,ZE T w t body k i ρ hs=some (.next,ρ2,h2)/\I n ρ2 h2
 | m,i,0,ρ,hs,e,l,h=>by omega
 | 0,i,k+1,ρ,hs,e,l,h=>by
  have e':n=i:=by omega
  subst e'
  exact⟨ρ,hs,by simp only [ZE,en ρ hs h],h⟩
 | m+1,i,k+1,ρ,hs,e,l,h=>by
  obtain⟨x,ρ',ρ1,h1,a,b,c,d⟩:=st i (by omega) ρ hs h
  obtain⟨ρ2,h2,g1,g2⟩:=Qd9 I st en m (i+1) k ρ1 h1 (by omega) (by omega) d
  exact⟨ρ2,h2,by simp only [ZE,a,b,c,g1],g2⟩
theorem Qjf{T:Tbl}{f:Ev}{ft:Rho->Hs->Option (Bool×Hs)}{w:Wk}{el:E}{ρ:Rho}(I:Nat->List U->Hs->Prop){n:Nat}
  (st:∀i,i<n->∀acc hs,I i acc hs->acc.length<1000000/\∃x u h2,itm T w i hs=some (some (.one x))/\ft ((ρ++[none]).set ρ.length (some x)) hs=some (true,hs)/\f el ((ρ++[none]).set ρ.length (some x)) hs=some (u,h2)/\I (i+1) (acc++[u]) h2)
  (en:∀acc hs,I n acc hs->itm T w n hs=some none):
  ∀(m i k:Nat) (acc:List U) (hs:Hs),n=i+m->m<k->I i acc hs->∃us h2,QQ T f ft w false el ρ k i acc hs=some (us,h2)/\I n us h2
 | m,i,0,acc,hs,e,l,h=>by omega
 | 0,i,k+1,acc,hs,e,l,h=>by
  have e':n=i:=by omega
  subst e'
  exact⟨acc,hs,by simp only [QQ,en acc hs h],h⟩
 | m+1,i,k+1,acc,hs,e,l,h=>by
  obtain⟨la,x,u,h1,a,b,c,d⟩:=st i (by omega) acc hs h
  obtain⟨us,h2,g1,g2⟩:=Qjf I st en m (i+1) k _ h1 (by omega) (by omega) d
  refine⟨us,h2,?_,g2⟩;rw [QQ];simp only [a,tgt,tgN,QcY,Bool.false_eq_true,if_false,la,if_true,b,Qo,c,g1]
theorem Qi1{v:Nat}{body:Ex}(I:Nat->Rho->Hs->Prop){ks:List (List U)}
  (st:∀j k,ks[j]?=some k->∀ρ hs,I j ρ hs->∃ρ2 h2,body (ρ.set v (some (.ref hs.length))) (hs++[.tup k])=some (.next,ρ2,h2)/\I (j+1) ρ2 h2):
  ∀(r:List (List U)) (j:Nat) (ρ:Rho) (hs:Hs),ks.drop j=r->j<=ks.length->I j ρ hs->∃ρ2 h2,Qeu v body r ρ hs=some (.next,ρ2,h2)/\I ks.length ρ2 h2
 | [],j,ρ,hs,e,l,h=>by
  have:ks.length=j:=by have:=List.drop_eq_nil_iff.mp e;omega
  exact⟨ρ,hs,rfl,by rw [this];exact h⟩
 | k::r,j,ρ,hs,e,l,h=>by
  have ek:ks[j]?=some k:=by
   have:=List.getElem?_drop (xs:=ks) (i:=j) (j:=0);rw [e]at this;simpa using this.symm
  have lt:=(List.getElem?_eq_some_iff.mp ek).1
  have e':ks.drop (j+1)=r:=by rw [<-List.drop_drop,e];rfl
  obtain⟨ρ1,h1,a,b⟩:=st j k ek ρ hs h
  obtain⟨ρ2,h2,g1,g2⟩:=Qi1 I st r (j+1) ρ1 h1 e' (by omega) b
  exact⟨ρ2,h2,by simp only [Qeu,a,g1],g2⟩
theorem YI{α β:Type}{P:α->β->Prop}:∀{l:List α} {r:List β},PySem.Paired P l r->∀{i:Nat} {b:β},r[i]?=some b->∃a,l[i]?=some a/\P a b
 | _,_,.nil,i,b,h=>by simp at h
 | _,_,.cons h t,0,b,e=>by
  simp only [List.getElem?_cons_zero,Option.some.injEq]at e ⊢;subst e;exact⟨_,rfl,h⟩
 | _,_,.cons h t,i+1,b,e=>by
  simp only [List.getElem?_cons_succ]at e ⊢;exact YI t e
noncomputable abbrev Ky:=List (Nm×Nat)
noncomputable abbrev Fu:=Nm->List Nm
noncomputable def kv(K:Ky):List (List U×U):=K.map fun p=>(nmK p.1,.ref p.2)
structure DF(hs:Hs)(K:Ky)(f:Fu):Prop where
 ky:(K.map (·.1)).Nodup
 pl:(K.map (·.2)).Nodup
 ls:∀p∈K,∃us,hs[p.2]?=some (.lst us)/\PySem.Paired (DN hs) us (f p.1)
theorem Qa2{a b:Nm}(h:nmK a=nmK b):a=b:=by
 simp only [nmK,List.cons.injEq,U.int.injEq,and_true]at h;exact Prod.ext h.1 h.2
theorem JD(K:Ky):(kv K).map (·.1)=(K.map (·.1)).map nmK:=by simp [kv]
theorem Qb4:∀{l:List Nm},l.Nodup->(l.map nmK).Nodup
 | [],_=>by simp
 | a::l,h=>by
  have h1:=List.nodup_cons.mp h;rw [List.map_cons,List.nodup_cons];refine⟨fun m=>?_,Qb4 h1.2⟩;obtain⟨b,mb,e⟩:=List.mem_map.mp m;rw [Qa2 e]at mb;exact h1.1 mb
theorem Yc:∀{K:Ky},(K.map (·.1)).Nodup->∀{a:Nm} {j:Nat},(a,j)∈K->QF (kv K) (nmK a)=some (.ref j)
 | [],_,a,j,m=>by simp at m
 | (b,i)::K,h,a,j,m=>by
  have h1:=List.nodup_cons.mp (by simpa using h:(b::K.map (·.1)).Nodup)
  rcases List.mem_cons.mp m with e | m
  ·cases e;simp [QF,kv]
  ·have ne:nmK b≠nmK a:=fun z=>h1.1 (by rw [Qa2 z];exact List.mem_map.mpr ⟨_,m,rfl⟩)
   have ih:=Yc h1.2 m;unfold QF at ih ⊢
   rw [show kv ((b,i)::K)=(nmK b,.ref i)::kv K from rfl,List.find?_cons_of_neg (by simpa using ne)]
   exact ih
theorem DF.kp{hs h2:Hs}{K:Ky}{f:Fu}(h:DF hs K f)(k:Kp hs h2):DF h2 K f :=
 ⟨h.ky,h.pl,fun p m=>let ⟨us,a,b⟩:=h.ls p m;⟨us,k _ _ a,Qc (fun _ _=>DN.kp k) b⟩⟩
theorem Qla:∀{K:Ky},(K.map (·.2)).Nodup->∀{a b:Nm} {j:Nat},(a,j)∈K->(b,j)∈K->a=b
 | [],_,a,b,j,m,_=>by simp at m
 | (c,i)::K,h,a,b,j,m,m'=>by
  have h1:=List.nodup_cons.mp (by simpa using h:(i::K.map (·.2)).Nodup)
  rcases List.mem_cons.mp m with e | m<;>rcases List.mem_cons.mp m' with e' | m'
  ·cases e;cases e';rfl
  ·cases e;exact absurd (List.mem_map.mpr ⟨_,m',rfl⟩) h1.1
  ·cases e';exact absurd (List.mem_map.mpr ⟨_,m,rfl⟩) h1.1
  ·exact Qla h1.2 m m'
noncomputable def Qfw(f:Fu)(a x:Nm):Fu:=fun b=>if b=a then f b++[x]else f b
theorem DF.push{hs:Hs}{K:Ky}{f:Fu}{a x:Nm}{j:Nat}{us:List U}(h:DF hs K f)(m:(a,j)∈K)(hj:hs[j]?=some (.lst us)):
  DF ((hs++[O.tup [.int x.1 0,.int x.2 0]]).set j (.lst (us++[.ref hs.length]))) K (Qfw f a x):=by
 have tk:TK hs ((hs++[O.tup [.int x.1 0,.int x.2 0]]).set j (.lst (us++[.ref hs.length]))):=TK.app.trans (TK.set (Qj hj) (by simp))
 have lj:=(List.getElem?_eq_some_iff.mp hj).1;refine⟨h.ky,h.pl,fun p mp=>?_⟩;obtain⟨vs,e,q⟩:=h.ls p mp;by_cases hp:p.2=j
 ·have ea:p.1=a:=Qla h.pl (j:=j) (by rw [<-hp];exact mp) m
  have ev:vs=us:=by rw [hp,hj]at e;cases e;rfl
  subst ev
  refine⟨vs++[.ref hs.length],by rw [hp,List.getElem?_set_self (by simp;omega)],?_⟩
  rw [Qfw,if_pos ea];refine QC ⟨hs.length,rfl,?_⟩ (Qc (fun _ _=>DN.mono tk) q)
  rw [List.getElem?_set_ne (by omega)]
  exact at0
 ·have na:p.1≠a:=fun z=>hp (by
   have l1:=Yc h.ky (a:=p.1) (j:=p.2) mp;have l2:=Yc h.ky m;rw [z]at l1;rw [l1]at l2;cases l2
   rfl)
  refine⟨vs,by rw [List.getElem?_set_ne (Ne.symm hp)];exact Qj e,?_⟩
  rw [Qfw,if_neg na];exact Qc (fun _ _=>DN.mono tk) q
structure FS(h0:Hs)(p:Nat)(K:Ky)(f:Fu)(hs:Hs):Prop where
 kp:Kp h0 hs
 lp:h0.length<=p
 di:hs[p]?=some (.dct (kv K))
 df:DF hs K f
 ge:∀q∈K,h0.length<=q.2
theorem FS.more{h0 hs h2:Hs}{p:Nat}{K:Ky}{f:Fu}(h:FS h0 p K f hs)(k:Kp hs h2):FS h0 p K f h2:=⟨h.kp.trans k,h.lp,k _ _ h.di,h.df.kp k,h.ge⟩
theorem QhG{T:Tbl}{hs:Hs}{p j:Nat}{K:Ky}{u:U}{a:Nm}(hp:hs[p]?=some (.dct (kv K)))(k:(K.map (·.1)).Nodup)(m:(a,j)∈K)(h:DN hs u a):QH T (.ref p) u hs=some (.ref j):=by
 obtain⟨i,rfl,e⟩:=h;have t:=QcL (hs:=hs) (u:=.ref i) (a:=a) ⟨i,rfl,e⟩;simp only [QH,hp,ZL,t,Option.map_some,Yc k m];rfl
theorem QmE{T:Tbl}{hs:Hs}{p j:Nat}{K:Ky}{u:U}{a:Nm}(hp:hs[p]?=some (.fzt (kv K)))(k:(K.map (·.1)).Nodup)(m:(a,j)∈K)(h:DN hs u a):QH T (.ref p) u hs=some (.ref j):=by
 obtain⟨i,rfl,e⟩:=h;have t:=QcL (hs:=hs) (u:=.ref i) (a:=a) ⟨i,rfl,e⟩;simp only [QH,hp,ZL,t,Option.map_some,Yc k m];rfl
theorem Qee{K:Ky}{a:Nm}(h:a∈K.map (·.1)):∃j,(a,j)∈K:=by
 obtain⟨p,m,rfl⟩:=List.mem_map.mp h;exact⟨p.2,m⟩
theorem QdB{T:Tbl}{cf:Cf}{d p iF iA:Nat}{h0 hs:Hs}{K:Ky}{f:Fu}{ρ:Rho}{u:U}{a x:Nm}{e1 e2:E}(h:FS h0 p K f hs)(rF:ρ[iF]?=some (some (.ref p)))(rA:ρ[iA]?=some (some u))(hu:DN hs u a)(ma:a∈K.map (·.1))(l:(f a).length<1000000)
  (v1:ev T cf (d+8) e1 ρ hs=some (.int x.1 0,hs)) (v2:ev T cf (d+8) e2 ρ hs=some (.int x.2 0,hs)):
  ∃h2,exs T cf (d+12) [.expr (.bm .append (.ix (.var iF) (.var iA)) [(.tup [e1,e2])])] ρ hs=some (.next,ρ,h2)/\FS h0 p K (Qfw f a x) h2:=by
 obtain⟨j,mj⟩:=Qee ma;obtain⟨us,hj,pu⟩:=h.df.ls _ mj;have el:=Qg pu;have gj:=h.ge _ mj;have sb:=QhG (T:=T) h.di h.df.ky mj hu
 have ap:=Yr (T:=T) (p:=j) (hs:=hs++[O.tup [.int x.1 0,.int x.2 0]]) (xs:=us) (u:=.ref hs.length) (Qj hj) (by simp only at el;omega)
 have np:p≠j:=fun z=>by rw [<-z]at hj;rw [h.di]at hj;cases hj
 refine⟨(hs++[O.tup [.int x.1 0,.int x.2 0]]).set j (.lst (us++[.ref hs.length])),?_,⟨(h.kp.trans (Kp.app _ [O.tup [.int x.1 0,.int x.2 0]])).put gj,h.lp,?_,h.df.push (x:=x) mj hj,h.ge⟩⟩
 rotate_left
 ·rw [List.getElem?_set_ne (Ne.symm np)];exact Qj h.di
 ·simp only [QL,Zo,Qco,Zq,Qi,rF,rA,Qo,sb,Option.map,Yo hj,if_true,evs,ZP,v1,v2,ap,Q3]
noncomputable def YT{α:Type}(g:Nat->α->Fu->Fu):Nat->List α->Fu->Fu
 | _,[],f=>f
 | i,x::xs,f=>YT g (i+1) xs (g i x f)
theorem Z3{α:Type}{g:Nat->α->Fu->Fu}{wt:α->Nat}(hg:∀i x f a,(g i x f a).length<=(f a).length+wt x):∀(xs:List α) (i:Nat) (f:Fu) (a:Nm),(YT g i xs f a).length<=(f a).length+(xs.map wt).sum
 | [],i,f,a=>by simp [YT]
 | x::xs,i,f,a=>by
  have h1:=Z3 hg xs (i+1) (g i x f) a;have h2:=hg i x f a;simp only [YT,List.map_cons,List.sum_cons];omega
theorem Qea{α:Type}{T:Tbl}{w:Wk}{t:Tg}{body:Ex}{h0:Hs}{p:Nat}{K:Ky}(P:Rho->Prop)(g:Nat->α->Fu->Fu)(wt:α->Nat)(hg:∀i x f a,(g i x f a).length<=(f a).length+wt x)(xs:List α)
  (st:∀i x,xs[i]?=some x->∀ρ hs f,P ρ->FS h0 p K f hs->(∀a,(f a).length+wt x<=900000)->∃m ρ' ρ2 h2,itm T w i hs=some (some m)/\tgt t m ρ hs=some ρ'/\body ρ' hs=some (.next,ρ2,h2)/\P ρ2/\FS h0 p K (g i x f) h2)
  (en:∀hs,Kp h0 hs->itm T w xs.length hs=some none) {ρ:Rho} {hs:Hs} {f:Fu} (hP:P ρ) (h:FS h0 p K f hs) (l:∀a,(f a).length+(xs.map wt).sum<=900000):
  ∃ρ2 h2,ZE T w t body (xs.length+1) 0 ρ hs=some (.next,ρ2,h2)/\P ρ2/\FS h0 p K (YT g 0 xs f) h2:=by
 obtain⟨ρ2,h2,g1,g2,f2,g3,g4,g5⟩:=Qd9 (T:=T) (w:=w) (t:=t) (body:=body) (n:=xs.length) (fun i ρ hs=>P ρ/\∃f',FS h0 p K f' hs/\YT g i (xs.drop i) f'=YT g 0 xs f/\∀a,(f' a).length+((xs.drop i).map wt).sum<=900000)
  (fun i hi ρ hs ⟨a,f',b,c,e⟩=>by
   obtain⟨x,hx⟩:∃x,xs[i]?=some x:=⟨xs[i],by simp [hi]⟩
   have hd:xs.drop i=x::xs.drop (i+1):=by
    rw [List.drop_eq_getElem_cons hi];rw [List.getElem?_eq_getElem hi]at hx;cases hx;rfl
   rw [hd]at c e;simp only [List.map_cons,List.sum_cons]at e
   obtain⟨m,ρ',ρ2,h2,q1,q2,q3,q4,q5⟩:=st i x hx ρ hs f' a b (fun z=>by have:=e z;omega)
   exact⟨m,ρ',ρ2,h2,q1,q2,q3,q4,_,q5,by simpa [YT]using c,fun z=>by have:=e z;have:=hg i x f' z;omega⟩)
  (fun ρ hs ⟨_,f',b,_,_⟩=>en hs b.kp) xs.length 0 (xs.length+1) ρ hs (by omega) (by omega) ⟨hP,f,h,by simp,by simpa using l⟩
 rw [List.drop_length]at g4
 exact⟨ρ2,h2,g1,g2,by rw [<-g4];exact g3⟩
noncomputable def Qhm(x:Nm)(ps:List Nm)(f:Fu):Fu:=YT (fun _ a f=>Qfw f a x) 0 ps f
noncomputable def Qjo(r:Nat)(row:List Lp)(f:Fu):Fu:=YT (fun q lp f=>Qhm ((r:Int),(q:Int)) lp.ps f) 0 row f
noncomputable def Qjz(rows:List (List Lp))(f:Fu):Fu:=YT (fun r row f=>Qjo r row f) 0 rows f
noncomputable def wtL(row:List Lp):Nat:=(row.map fun lp=>lp.ps.length).sum
noncomputable def wtR(rows:List (List Lp)):Nat:=(rows.map wtL).sum
theorem Jt{x:Nm}(i:Nat)(b:Nm)(f:Fu)(a:Nm):(Qfw f b x a).length<=(f a).length+1:=by
 unfold Qfw;split<;>simp
theorem QhF{α:Type}:∀l:List α,(l.map fun _=>1).sum=l.length
 | []=>rfl
 | _::l=>by rw [List.map_cons,List.sum_cons,QhF l,List.length_cons];omega
theorem JO(x:Nm)(ps:List Nm)(f:Fu)(a:Nm):(Qhm x ps f a).length<=(f a).length+ps.length:=by
 have:=Z3 (g:=fun _ a f=>Qfw f a x) (wt:=fun _=>1) (fun i b f a=>Jt i b f a) ps 0 f a;rw [QhF]at this;exact this
theorem JP(r:Nat)(row:List Lp)(f:Fu)(a:Nm):(Qjo r row f a).length<=(f a).length+wtL row :=
 Z3 (g:=fun q (lp:Lp) f=>Qhm ((r:Int),(q:Int)) lp.ps f) (wt:=fun lp=>lp.ps.length) (fun i lp f a=>JO _ _ f a) row 0 f a
theorem Qlf{T:Tbl}{cf:Cf}{d p iF iA j:Nat}{h0 hs:Hs}{K:Ky}{f:Fu}{us:List U}{ps:List Nm}{x:Nm}{e1 e2:E}(P:Rho->Prop)(hj:h0[j]?=some (.tup us))(pu:PySem.Paired (DN h0) us ps)(mp:∀a∈ps,a∈K.map (·.1))
  (hP:∀ρ u,P ρ->P (ρ.set iA (some u))/\(ρ.set iA (some u))[iF]?=some (some (.ref p))/\(ρ.set iA (some u))[iA]?=some (some u)/\∀hs,ev T cf (d+8) e1 (ρ.set iA (some u)) hs=some (.int x.1 0,hs)/\ev T cf (d+8) e2 (ρ.set iA (some u)) hs=some (.int x.2 0,hs))
  {ρ:Rho} (h:FS h0 p K f hs) (l:∀a,(f a).length+ps.length<=900000) (h1:P ρ):
  ∃ρ2 h2,ZE T (.seqT (.ref j)) (.name iA) (exs T cf (d+12) [.expr (.bm .append (.ix (.var iF) (.var iA)) [(.tup [e1,e2])])]) (us.length+1) 0 ρ hs=some (.next,ρ2,h2)/\P ρ2/\FS h0 p K (Qhm x ps f) h2:=by
 have el:=Qg pu;rw [el]
 refine Qea P (fun _ a f=>Qfw f a x) (fun _=>1) (fun i b f a=>Jt i b f a) ps ?_ ?_ h1 h (by simpa [QhF]using l)
 ·intro i a ha ρ hs f hp fs lf;obtain⟨u,hu,du⟩:=YI pu ha;obtain⟨p1,p2,p3,p4⟩:=hP ρ u hp
  obtain⟨h2,g1,g2⟩:=QdB (T:=T) (cf:=cf) (d:=d) (iF:=iF) (iA:=iA) (ρ:=ρ.set iA (some u)) (x:=x) fs p2 p3 (du.kp fs.kp) (mp a (List.mem_of_getElem? ha)) (by have:=lf a;omega) (p4 hs).1 (p4 hs).2
  exact⟨.one u,_,_,h2,by simp only [itm,Ym,fs.kp _ _ hj,Option.map,hu],rfl,g1,p1,g2⟩
 ·intro hs k
  have:us[ps.length]?=none:=by rw [List.getElem?_eq_none_iff];omega
  simp only [itm,Ym,k _ _ hj,Option.map,this]
noncomputable def QpY:List S:=[.expr (.bm .append (.ix (.var 1) (.var 6)) [(.tup [(.var 2),(.var 4)])])]
noncomputable def Qn0:List S:=[.loop (.name 6) (.seq (.ix (.var 5) (.c (.int 0 0)))) QpY]
noncomputable def Qn1:List S:=[.loop (.pair 4 5) (.enm (.var 3)) Qn0]
noncomputable def lpD:S:=.loop (.pair 2 3) (.enm (.ix (.var 0) (.c (.int 0 0)))) Qn1
theorem Qod{T:Tbl}{hs:Hs}{j:Nat}{us:List U}(h:hs[j]?=some (.tup us)):wkS T (.ref j) hs=some (.seqT (.ref j)):=by simp only [wkS,QA,Ym,h]
theorem Qof{T:Tbl}{hs:Hs}{j:Nat}{us:List U}(h:hs[j]?=some (.tup us)):QZ T (.seqT (.ref j)) hs=us.length+1:=by simp only [QZ,Ym,h,Option.getD_some]
theorem Qog{T:Tbl}{hs:Hs}{j:Nat}{us:List U}(h:hs[j]?=some (.lst us)):QZ T (.enmL (.ref j)) hs=us.length+1:=by simp only [QZ,QA,h,Option.getD_some]
theorem Qi7{T:Tbl}{cf:Cf}{d p r q:Nat}{h0 hs:Hs}{K:Ky}{f:Fu}{u v:U}{o3 o6:Option U}{lp:Lp}(dl:DL h0 v lp)(mp:∀a∈lp.ps,a∈K.map (·.1))(h:FS h0 p K f hs)(l:∀a,(f a).length+lp.ps.length<=900000):
  ∃o6' h2,exs T cf (d+14) Qn0 [some u,some (.ref p),some (.int r 0),o3,some (.int q 0),some v,o6] hs=some (.next,[some u,some (.ref p),some (.int r 0),o3,some (.int q 0),some v,o6'],h2)/\FS h0 p K (Qhm ((r:Int),(q:Int)) lp.ps f) h2:=by
 obtain⟨i,j,us,rfl,hi,hj,pu⟩:=dl
 obtain⟨ρ2,h2,g1,⟨o6',rfl⟩,g3⟩:=Qlf (T:=T) (cf:=cf) (d:=d) (iF:=1) (iA:=6) (e1:=.var 2) (e2:=.var 4) (x:=((r:Int),(q:Int))) (fun ρ=>∃o,ρ=[some u,some (.ref p),some (.int r 0),o3,some (.int q 0),some (.ref i),o]) hj pu mp
  (fun ρ w ⟨o,e⟩=>by subst e;exact⟨⟨some w,rfl⟩,rfl,rfl,fun hs=>⟨Yl rfl,Yl rfl⟩⟩) h l ⟨o6,rfl⟩
 refine⟨o6',h2,Qr (ZF (w:=.seqT (.ref j)) (h1:=hs) ?_ ?_),g3⟩
 ·have s1:QH T (.ref i) (.int 0 0) hs=some (.ref j):=by simp only [QH,h.kp _ _ hi];exact Qcj (i:=0) rfl
  simp only [Ze,Zq,Qi,y_c,Qo,List.getElem?_cons_succ,List.getElem?_cons_zero,s1,Option.map,Qod (h.kp _ _ hj)]
 ·rw [Qof (h.kp _ _ hj)];exact g1
theorem Qlz{T:Tbl}{cf:Cf}{d p r:Nat}{h0 hs:Hs}{K:Ky}{f:Fu}{u v:U}{o4 o5 o6:Option U}{row:List Lp}(dr:DRw h0 v row)(mp:∀lp∈row,∀a∈lp.ps,a∈K.map (·.1))(h:FS h0 p K f hs)(l:∀a,(f a).length+wtL row<=900000):
  ∃o4' o5' o6' h2,exs T cf (d+16) Qn1 [some u,some (.ref p),some (.int r 0),some v,o4,o5,o6] hs=some (.next,[some u,some (.ref p),some (.int r 0),some v,o4',o5',o6'],h2)/\FS h0 p K (Qjo r row f) h2:=by
 obtain⟨i,us,rfl,hi,pu⟩:=dr;have el:=Qg pu
 obtain⟨ρ2,h2,g1,⟨o4',o5',o6',rfl⟩,g3⟩:=Qea (T:=T) (w:=.enmL (.ref i)) (t:=.pair 4 5) (body:=exs T cf (d+14) Qn0) (fun ρ=>∃o4 o5 o6,ρ=[some u,some (.ref p),some (.int r 0),some (.ref i),o4,o5,o6]) (fun q lp f=>Qhm ((r:Int),(q:Int)) lp.ps f) (fun lp=>lp.ps.length) (fun i lp f a=>JO _ _ f a) row
  (fun q lp hq ρ hs f ⟨o4,o5,o6,e⟩ fs lf=>by
   subst e;obtain⟨w,hw,dw⟩:=YI pu hq;obtain⟨o6',h2,g1,g2⟩:=Qi7 (T:=T) (cf:=cf) (d:=d) (r:=r) (q:=q) (u:=u) (o3:=some (.ref i)) (o6:=o6) dw (mp lp (List.mem_of_getElem? hq)) fs lf
   exact⟨.two (.int q 0) w,_,_,h2,by simp only [itm,QA,fs.kp _ _ hi,Option.map,hw],rfl,g1,⟨_,_,_,rfl⟩,g2⟩)
  (fun hs k=>by
   have:us[row.length]?=none:=by rw [List.getElem?_eq_none_iff];omega
   simp only [itm,QA,k _ _ hi,Option.map,this]) ⟨o4,o5,o6,rfl⟩ h l
 refine⟨o4',o5',o6',h2,Qr (ZF (w:=.enmL (.ref i)) (h1:=hs) ?_ ?_),g3⟩
 ·have e2:QA T (.ref i) hs=some us:=by simp only [QA,h.kp _ _ hi]
  simp only [Ze,Qi,Qo,List.getElem?_cons_succ,List.getElem?_cons_zero,e2]
 ·rw [Qog (h.kp _ _ hi),el];exact g1
theorem Qi6{T:Tbl}{cf:Cf}{d p:Nat}{h0 hs:Hs}{K:Ky}{f:Fu}{u:U}{D:Wb}(dw:DW h0 u D)(mp:∀row∈D.rows,∀lp∈row,∀a∈lp.ps,a∈K.map (·.1))(h:FS h0 p K f hs)(l:∀a,(f a).length+wtR D.rows<=900000):
  ∃ρ2 h2,ex T cf (d+17) lpD [some u,some (.ref p),none,none,none,none,none] hs=some (.next,ρ2,h2)/\ρ2[1]?=some (some (.ref p))/\FS h0 p K (Qjz D.rows f) h2:=by
 obtain⟨a,ra,s1,ha,pa⟩:=Qi4 (T:=T) (dw.kp h.kp)
 have ha0:∃ra,h0[a]?=some (.lst ra)/\PySem.Paired (DRw h0) ra D.rows:=by
  obtain⟨i,a',b,k,o,ra',rb,rk,ro,rfl,q1,q2,q3,q4,q5,q6,q7,q8,q9⟩:=dw
  have:a'=a:=by
   have s2:QH T (.ref i) (.int 0 0) hs=some (.ref a'):=by simp only [QH,h.kp _ _ q1];exact Qcj (i:=0) rfl
   rw [s1]at s2;cases s2;rfl
  subst this;exact⟨ra',q2,q6⟩
 obtain⟨ra',ha0,pa0⟩:=ha0;have el:=Qg pa0
 obtain⟨ρ2,h2,g1,⟨o2,o3,o4,o5,o6,rfl⟩,g3⟩:=Qea (T:=T) (w:=.enmL (.ref a)) (t:=.pair 2 3) (body:=exs T cf (d+16) Qn1) (fun ρ=>∃o2 o3 o4 o5 o6,ρ=[some u,some (.ref p),o2,o3,o4,o5,o6]) (fun r row f=>Qjo r row f) wtL (fun i lp f a=>JP _ _ f a) D.rows
  (fun r row hr ρ hs f ⟨o2,o3,o4,o5,o6,e⟩ fs lf=>by
   subst e;obtain⟨w,hw,dw⟩:=YI pa0 hr;obtain⟨o4',o5',o6',h2,g1,g2⟩:=Qlz (T:=T) (cf:=cf) (d:=d) (r:=r) (u:=u) (o4:=o4) (o5:=o5) (o6:=o6) dw (mp row (List.mem_of_getElem? hr)) fs lf
   exact⟨.two (.int r 0) w,_,_,h2,by simp only [itm,QA,fs.kp _ _ ha0,Option.map,hw],rfl,g1,⟨_,_,_,_,_,rfl⟩,g2⟩)
  (fun hs k=>by
   have:ra'[D.rows.length]?=none:=by rw [List.getElem?_eq_none_iff];omega
   simp only [itm,QA,k _ _ ha0,Option.map,this]) ⟨none,none,none,none,none,rfl⟩ h l
 refine⟨[some u,some (.ref p),o2,o3,o4,o5,o6],h2,ZF (w:=.enmL (.ref a)) (h1:=hs) ?_ ?_,rfl,g3⟩
 ·have e2:QA T (.ref a) hs=some ra':=by simp only [QA,h.kp _ _ ha0]
  simp only [Ze,Zq,Qi,y_c,Qo,List.getElem?_cons_zero,s1,Option.map,e2]
 ·rw [Qog (h.kp _ _ ha0),el];exact g1
noncomputable def Y3(r n:Nat):List Nm:=(List.range n).map fun k:Nat=>((r:Int),(k:Int))
noncomputable def Jh(g:Nat->Nat)(rows:List (List Lp))(m:Nat):List Nm:=((List.range m).map fun j=>Y3 (g j) (rows.getD (g j) []).length).flatten
theorem Qaa(r n:Nat):Y3 r (n+1)=Y3 r n++[((r:Int),(n:Int))]:=by simp [Y3,List.range_succ]
theorem ZA(r n:Nat):(Y3 r n).length=n:=by simp [Y3]
theorem ZW(g:Nat->Nat)(rows:List (List Lp))(m:Nat):Jh g rows (m+1)=Jh g rows m++Y3 (g m) (rows.getD (g m) []).length:=by simp [Jh,List.range_succ]
theorem mem_rowN{r n:Nat}{a:Nm}:a∈Y3 r n↔a.1=r/\∃k,k<n/\a.2=(k:Int):=by
 unfold Y3;rw [List.mem_map];constructor
 ·rintro⟨k,hk,rfl⟩;exact⟨rfl,k,List.mem_range.mp hk,rfl⟩
 ·rintro⟨h1,k,hk,h2⟩;exact⟨k,List.mem_range.mpr hk,Prod.ext h1.symm h2.symm⟩
theorem QbX{g:Nat->Nat}{rows:List (List Lp)}{m:Nat}{a:Nm}:a∈Jh g rows m↔∃j,j<m/\a∈Y3 (g j) (rows.getD (g j) []).length:=by
 unfold Jh;rw [List.mem_flatten];constructor
 ·rintro⟨l,ml,ma⟩;obtain⟨j,mj,rfl⟩:=List.mem_map.mp ml;exact⟨j,List.mem_range.mp mj,ma⟩
 ·rintro⟨j,hj,ma⟩;exact⟨_,List.mem_map.mpr ⟨j,List.mem_range.mpr hj,rfl⟩,ma⟩
theorem QiD(r n:Nat):(Y3 r n).Nodup:=by
 unfold Y3 List.Nodup;rw [List.pairwise_map];refine List.Pairwise.imp ?_ (List.pairwise_lt_range (n:=n));intro a b h e;have:=congrArg Prod.snd e;simp only at this;omega
theorem Qa3{g:Nat->Nat}{rows:List (List Lp)}{m:Nat}(hg:∀i j,i<j->j<m->g i≠g j):(Jh g rows m).Nodup:=by
 unfold Jh List.Nodup;rw [List.pairwise_flatten];refine⟨fun l ml=>?_,?_⟩
 ·obtain⟨j,_,rfl⟩:=List.mem_map.mp ml;exact QiD _ _
 ·rw [List.pairwise_map];refine List.Pairwise.imp_of_mem ?_ (List.pairwise_lt_range (n:=m));intro i j mi mj lt x mx y my e;have h1:=(mem_rowN.mp mx).1;have h2:=(mem_rowN.mp my).1;rw [e,h2]at h1
  exact hg i j lt (List.mem_range.mp mj) (by omega)
noncomputable def upN(rows:List (List Lp)):List Nm:=Jh id rows rows.length
noncomputable def gD(n j:Nat):Nat:=n-1-j
noncomputable def dnN(rows:List (List Lp)):List Nm:=Jh (gD rows.length) rows rows.length
theorem Qni(rows:List (List Lp)):(upN rows).Nodup:=Qa3 fun i j h _=>by simp only [id];omega
theorem Qlb(rows:List (List Lp)):(dnN rows).Nodup:=Qa3 fun i j h l=>by unfold gD;omega
theorem Qg4{rows:List (List Lp)}{a:Nm}:a∈upN rows↔∃j,j<rows.length/\a∈Y3 j (rows.getD j []).length:=QbX
theorem QbY{rows:List (List Lp)}{a:Nm}:a∈dnN rows↔a∈upN rows:=by
 rw [Qg4];unfold dnN;rw [QbX];constructor
 ·rintro⟨j,hj,m⟩
  exact⟨gD rows.length j,by unfold gD;omega,m⟩
 ·rintro⟨j,hj,m⟩
  refine⟨gD rows.length j,by unfold gD;omega,?_⟩
  have:gD rows.length (gD rows.length j)=j:=by unfold gD;omega
  rw [this];exact m
theorem Qhv(rows:List (List Lp)):(dnN rows).length=(upN rows).length:=((List.perm_ext_iff_of_nodup (Qlb rows) (Qni rows)).mpr fun a=>QbY).length_eq
theorem Qbx(rows:List (List Lp)):(upN rows).length=szR rows:=by
 unfold upN Jh szR;rw [List.length_flatten,List.map_map]
 have:(List.range rows.length).map (List.length∘fun j=>Y3 (id j) (rows.getD (id j) []).length)=rows.map List.length:=by
  apply List.ext_getElem
  ·simp
  ·intro i h1 h2;simp [ZA]at h1 ⊢;rw [List.getElem?_eq_getElem h1];rfl
 rw [this]
theorem Qa1{g:Nat->Nat}{rows:List (List Lp)}:∀{k m:Nat},m<=k->(Jh g rows m).length<=(Jh g rows k).length
 | 0,m,h=>by
  have:m=0:=by omega
  subst this;exact Nat.le_refl _
 | k+1,m,h=>by
  by_cases e:m=k+1
  ·subst e;exact Nat.le_refl _
  ·have:=Qa1 (g:=g) (rows:=rows) (k:=k) (m:=m) (by omega)
   rw [ZW,List.length_append];omega
theorem Qmt{rows:List (List Lp)}{a:Nm}(h:Vn rows a):a∈upN rows:=by
 obtain⟨h1,h2,h3,h4⟩:=h;rw [Qg4]
 refine⟨a.1.toNat,by omega,mem_rowN.mpr ⟨by omega,a.2.toNat,?_,by omega⟩⟩
 unfold Qa6 at h4;omega
theorem Qje{T:Tbl}{cf:Cf}{d r N:Nat}{u w:U}{hs:Hs}(l:N<=1000000):∃z us,QQ T (ev T cf (d+5)) (Z4 (evT T cf (d+5)) none) (.rng 0 N) false (.tup [(.var 2),(.var 3)]) [some u,some w,some (.int r 0)] (N+1) 0 [] hs=some (us,hs++z)/\PySem.Paired (DN (hs++z)) us (Y3 r N):=by
 obtain⟨us,h2,g1,z,rfl,g2⟩:=Qjf (T:=T) (f:=ev T cf (d+5)) (ft:=Z4 (evT T cf (d+5)) none) (w:=.rng 0 N) (el:=.tup [(.var 2),(.var 3)]) (ρ:=[some u,some w,some (.int r 0)]) (n:=N) (fun i acc h=>∃z,h=hs++z/\PySem.Paired (DN h) acc (Y3 r i))
  (fun i hi acc h ⟨z,e,pa⟩=>by
   have el:=Qg pa;rw [ZA]at el
   refine⟨by omega,.int (i:Int) 0,.ref h.length,h++[.tup [.int r 0,.int i 0]],by simp [itm,hi],rfl,?_,z++[.tup [.int r 0,.int i 0]],by rw [e,List.append_assoc],?_⟩
   ·simp only [ZP,evs,Qi,Qo,List.cons_append,List.nil_append,List.length_cons,List.length_nil,Nat.zero_add,Nat.reduceAdd,List.set_cons_succ,List.set_cons_zero,List.getElem?_cons_succ,List.getElem?_cons_zero]
   ·rw [Qaa]
    exact QC ⟨h.length,rfl,at0⟩ (Qc (fun _ _=>Zh) pa))
  (fun acc h _=>by simp [itm]) N 0 (N+1) [] hs (by omega) (by omega) ⟨[],by simp,.nil⟩
 exact⟨z,us,g1,g2⟩
noncomputable def bdN:List S:=[(.expr (.bm .extend (.var 1) [(.comp (.rng (.bi .len [(.ix (.ix (.var 0) (.c (.int 0 0))) (.var 2))])) false none (.tup [(.var 2),(.var 3)]))]))]
noncomputable def lpN:S:=(.loop (.name 2) (.rngA [(.op .Sub (.bi .len [(.ix (.var 0) (.c (.int 0 0)))]) (.c (.int 1 0))),(.neg (.c (.int 1 0))),(.neg (.c (.int 1 0)))]) bdN)
theorem Qn7:b1=[(.set 1 (.lst [])),lpN,(.ret (.var 1))]:=rfl
theorem QpH{s:List U}{m:Nat}{a:U}{hs:Hs}:Qa (tb s) (m+1) 1 [a] hs=fin (exs (tb s) (Qa (tb s) m) dd b1 [some a,none,none] hs):=rfl
theorem QnI{T:Tbl}{p q:Nat}{hs:Hs}{xs ys:List U}(h:hs[p]?=some (.lst xs))(h':hs[q]?=some (.lst ys))(l:xs.length+ys.length<=1000000):bmU T .extend (.ref p) [.ref q] hs=some (.non,hs.set p (.lst (xs++ys))):=by
 simp only [bmU,h,bmL,h',l,if_true]
theorem QmS{p:Nat}{hs:Hs}{xs:List U}(h:hs[p]?=some (.lst xs)):QaV .extend (.ref p) hs=true:=by simp only [QaV,h];rfl
theorem Qi5{h0:Hs}{u:U}{D:Wb}(h:DW h0 u D):∃a ra,(∀(T:Tbl) hs,Kp h0 hs->QH T u (.int 0 0) hs=some (.ref a))/\h0[a]?=some (.lst ra)/\PySem.Paired (DRw h0) ra D.rows:=by
 obtain⟨i,a,b,k,o,ra,rb,rk,ro,rfl,h1,h2,h3,h4,h5,h6,h7,h8,h9⟩:=h
 exact⟨a,ra,fun T hs kp=>by simp only [QH,kp _ _ h1];exact Qcj (i:=0) rfl,h2,h6⟩
theorem Qkb{T:Tbl}{f:Ev}{ρ:Rho}{es:List E}{hs h1:Hs}{n:Nat}(h:evs f ρ es hs=some ([.int ((n:Int) - 1) 0,.int (-1) 0,.int (-1) 0],h1))(l:n<=1000000):Ze T f ρ (.rngA es) hs=some (.rngC ((n:Int) - 1) (-1) n,h1):=by
 have c1:(Qp (((n:Int) - 1)*16)&&Qp ((-1:Int)*16)&&decide ((0:Int) < -1)&&decide ((-1:Int) < 1073741824))=false:=by simp
 have c3:Qp (((n:Int) - 1)*16)=true:=by
  simp only [Qp,Bool.and_eq_true,decide_eq_true_eq];omega
 have c2:(Qp (((n:Int) - 1)*16)&&Qp ((-1:Int)*16)&&decide ((-1:Int)=-1))=true:=by rw [c3];decide
 have e:(((n:Int) - 1) - -1).toNat=n:=by omega
 simp only [Ze,h,Qo]
 rw [if_neg (by rw [c1];decide),if_pos (by rw [c3];decide),e]
theorem QlK{s:List U}{m:Nat}{h0:Hs}{u:U}{D:Wb}(dw:DW h0 u D)(lr:D.rows.length<=100000)(ls:szR D.rows<=900000):
  ∃h2 us,Qa (tb s) (m+1) 1 [u] h0=some (.ref h0.length,h2)/\Kp h0 h2/\h2[h0.length]?=some (.lst us)/\PySem.Paired (DN h2) us (dnN D.rows):=by
 obtain⟨a,ra,sa,ha,pa⟩:=Qi5 dw;have el:=Qg pa
 have ln:∀k,k<=D.rows.length->(Jh (gD D.rows.length) D.rows k).length<=900000:=fun k hk=>by
  have h1:=Qa1 (g:=gD D.rows.length) (rows:=D.rows) hk;have h2:=Qhv D.rows;rw [Qbx]at h2;unfold dnN at h2;omega
 rw [QpH,Qn7];show ∃h2 us,fin (exs (tb s) (Qa (tb s) m) 100 _ _ _)=_/\_;generalize Qa (tb s) m=cf;generalize tb s=T
 obtain⟨ρ2,h2,g1,⟨o,rfl⟩,k2,us,hp,pu⟩:=Qd9 (T:=T) (w:=.rngC ((ra.length:Int) - 1) (-1) ra.length) (t:=.name 2) (body:=exs T cf 97 bdN) (n:=ra.length) (fun i ρ hs=>(∃o,ρ=[some u,some (.ref h0.length),o])/\Kp h0 hs/\∃us,hs[h0.length]?=some (.lst us)/\PySem.Paired (DN hs) us (Jh (gD D.rows.length) D.rows i))
  (fun i hi ρ hs ⟨⟨o,e⟩,kp,us,hp,pu⟩=>by
   subst e
   have hg:gD D.rows.length i<D.rows.length:=by unfold gD;omega
   obtain⟨row,hr⟩:∃row,D.rows[gD D.rows.length i]?=some row:=⟨_,List.getElem?_eq_getElem hg⟩
   have er:D.rows.getD (gD D.rows.length i) []=row:=by rw [List.getD_eq_getElem?_getD,hr];rfl
   obtain⟨v,hv,j,vs,rfl,hj,pv⟩:=YI pa hr;have evl:=Qg pv;have eu:=Qg pu
   have l1:=ln (i+1) (by omega)
   rw [ZW,List.length_append,ZA,er]at l1
   have ei:((ra.length:Int) - 1)+(i:Int)*(-1)=((gD D.rows.length i:Nat):Int):=by unfold gD;omega
   have s2:QH T (.ref a) (.int ((gD D.rows.length i:Nat):Int) 0) hs=some (.ref j):=by simp only [QH,kp _ _ ha];exact Qcj hv
   obtain⟨z,ns,c1,c2⟩:=Qje (T:=T) (cf:=cf) (d:=88) (r:=gD D.rows.length i) (N:=vs.length) (u:=u) (w:=.ref h0.length) (hs:=hs) (by omega)
   have vl:ev T cf 93 (.bi .len [(.ix (.ix (.var 0) (.c (.int 0 0))) (.var 2))]) [some u,some (.ref h0.length),some (.int ((gD D.rows.length i:Nat):Int) 0)] hs=some (.int (vs.length:Int) 0,hs):=by
    simp only [Yy,evs,Zq,Qi,y_c,Qo,List.getElem?_cons_succ,List.getElem?_cons_zero,sa T hs kp,Option.map,s2,Zb (kp _ _ hj)]
   have vc:=Jc (t:=none) (el:=.tup [(.var 2),(.var 3)]) (YC vl (by omega)) c1
   have en:=Qg c2;rw [ZA]at en
   have x1:=QnI (T:=T) (p:=h0.length) (q:=(hs++z).length) (hs:=hs++z++[O.lst ns]) (Qj (Qj hp)) at0 (by omega)
   have tk:TK (hs++z) (List.set (hs++z++[O.lst ns]) h0.length (O.lst (us++ns))):=TK.app.trans (TK.set (Qj (Qj hp)) (by simp))
   refine⟨.one (.int ((gD D.rows.length i:Nat):Int) 0),_,[some u,some (.ref h0.length),some (.int ((gD D.rows.length i:Nat):Int) 0)],List.set (hs++z++[O.lst ns]) h0.length (O.lst (us++ns)),by simp only [itm,hi,if_true,ei],rfl,?_,⟨_,rfl⟩,(kp.trans ((Kp.app _ _).trans (Kp.app _ _))).put (Nat.le_refl _),us++ns,?_,?_⟩
   ·simp only [List.set_cons_succ,List.set_cons_zero];refine Qr ?_;simp only [Zo,Qco,Qi,List.getElem?_cons_succ,List.getElem?_cons_zero,Qo,QmS hp,if_true,evs,vc,x1]
   ·rw [List.getElem?_set_self];have:=Kp.len kp;have:=(List.getElem?_eq_some_iff.mp hp).1;simp;omega
   ·rw [ZW,er,<-evl]
    exact Jy (Qc (fun _ _ z=>(Zh z).mono tk) pu) (Qc (fun _ _ z=>z.mono tk) c2))
  (fun ρ hs _=>by simp [itm]) ra.length 0 (ra.length+1) [some u,some (.ref h0.length),none] (h0++[O.lst []]) (by omega) (by omega) ⟨⟨_,rfl⟩,Kp.app _ _,[],at0,.nil⟩
 refine⟨h2,us,?_,k2,hp,by rw [el]at pu;exact pu⟩
 have x1:ex T cf 99 (.set 1 (.lst [])) [some u,none,none] h0=some (.next,[some u,some (.ref h0.length),none],h0++[O.lst []]):=by
  simp [Yh,Zs,evs,Qo]
 have vl:evs (ev T cf 97) [some u,some (.ref h0.length),none] [(.op .Sub (.bi .len [(.ix (.var 0) (.c (.int 0 0)))]) (.c (.int 1 0))),(.neg (.c (.int 1 0))),(.neg (.c (.int 1 0)))] (h0++[O.lst []])=some ([.int ((ra.length:Int) - 1) 0,.int (-1) 0,.int (-1) 0],h0++[O.lst []]):=by
  simp only [evs,Yi,Yy,Zq,Qi,y_c,Qmn,Qo,List.getElem?_cons_zero,sa T _ (Kp.app h0 [O.lst []]),Option.map,Zb (Qj ha),opU,QhI,gz]
 have x2:ex T cf 98 lpN [some u,some (.ref h0.length),none] (h0++[O.lst []])=some (.next,[some u,some (.ref h0.length),o],h2):=ZF (Qkb vl (by omega)) g1
 rw [Qn x1,Qn x2];exact JU (d:=96) (Yl rfl)
noncomputable def PrD(hs:Hs)(u:U)(q:Nm×Nat):Prop:=∃i v,u=.ref i/\hs[i]?=some (.tup [v,.ref q.2])/\DN hs v q.1/\hs[q.2]?=some (.lst [])
theorem PrD.kp{hs h2:Hs}(k:Kp hs h2){u:U}{q:Nm×Nat}(h:PrD hs u q):PrD h2 u q:=let ⟨i,v,e,a,b,c⟩:=h;⟨i,v,e,k _ _ a,b.kp k,k _ _ c⟩
theorem QgV{hs:Hs}:∀{us:List U} {K:Ky},PySem.Paired (PrD hs) us K->Qjy hs us=some (kv K)
 | _,_,.nil=>rfl
 | _,_,.cons h t=>by
  obtain⟨i,v,rfl,e,d,_⟩:=h;have ih:=QgV t;simp only [Qjy,e,QcL d,Option.bind,ih,Option.map];rfl
theorem QdA{kvs:List (List U×U)}{k:List U}{v:U}(h:k∉kvs.map (·.1)):ZJ kvs k v=kvs++[(k,v)]:=by
 unfold ZJ;rw [if_neg];intro z;rw [List.any_eq_true]at z;obtain⟨p,mp,e⟩:=z
 exact h (List.mem_map.mpr ⟨p,mp,by simpa using e⟩)
theorem Qcb:∀(l acc:List (List U×U)),((acc++l).map (·.1)).Nodup->l.foldl (fun a p=>ZJ a p.1 p.2) acc=acc++l
 | [],acc,_=>by simp
 | p::l,acc,h=>by
  have hn:p.1∉acc.map (·.1):=fun m=>by
   rw [List.map_append,List.nodup_append]at h
   exact h.2.2 _ m _ (by simp) rfl
  rw [List.foldl_cons,QdA hn,Qcb l (acc++[(p.1,p.2)]) (by simpa using h)]
  simp
theorem Qi2{K:Ky}(h:(K.map (·.1)).Nodup):Qgl (kv K)=kv K:=by
 have:=Qcb (kv K) [] (by rw [List.nil_append,JD];exact Qb4 h)
 simpa [Qgl]using this
noncomputable def cmD:E:=(.comp (.seq (.call 1 [(.var 0)])) false none (.tup [(.var 7),(.lst [])]))
theorem Qn8:b0=[(.set 1 (.bi .dict [cmD])),lpD,(.ret (.var 1))]:=rfl
theorem cl0{s:List U}{m:Nat}{a:U}{hs:Hs}:Qa (tb s) (m+1) 0 [a] hs=fin (exs (tb s) (Qa (tb s) m) dd b0 [some a,none,none,none,none,none,none] hs):=rfl
theorem Qgw{T:Tbl}{cf:Cf}{d p:Nat}{ρ:Rho}{nms:List Nm}{us:List U}{hs:Hs}(l7:ρ.length=7)(hp:hs[p]?=some (.lst us))(pu:PySem.Paired (DN hs) us nms)(l:nms.length<=900000):
  ∃vs h2 K,QQ T (ev T cf (d+5)) (Z4 (evT T cf (d+5)) none) (.seqL (.ref p)) false (.tup [(.var 7),(.lst [])]) ρ (us.length+1) 0 [] hs=some (vs,h2)/\Kp hs h2/\K.map (·.1)=nms/\PySem.Paired (PrD h2) vs K/\(K.map (·.2)).Nodup/\∀q∈K,hs.length<=q.2:=by
 have el:=Qg pu
 obtain⟨vs,h2,g1,k2,K,e2,p2,n2,ge⟩:=Qjf (T:=T) (f:=ev T cf (d+5)) (ft:=Z4 (evT T cf (d+5)) none) (w:=.seqL (.ref p)) (el:=.tup [(.var 7),(.lst [])]) (ρ:=ρ) (n:=nms.length) (fun i acc h=>Kp hs h/\∃K:Ky,K.map (·.1)=nms.take i/\PySem.Paired (PrD h) acc K/\(K.map (·.2)).Nodup/\∀q∈K,hs.length<=q.2)
  (fun i hi acc h ⟨kp,K,e,pa,nd,ge⟩=>by
   obtain⟨a,ha⟩:∃a,nms[i]?=some a:=⟨_,List.getElem?_eq_getElem hi⟩;obtain⟨u,hu,du⟩:=YI pu ha;have ea:=Qg pa
   have eK:K.length=i:=by
    have:=congrArg List.length e;simp only [List.length_map,List.length_take]at this;omega
   have r7:((ρ++[none]).set ρ.length (some u))[7]?=some (some u):=by rw [<-l7];simp
   have kq:Kp h (h++[O.lst []]++[O.tup [u,.ref h.length]]):=(Kp.app _ _).trans (Kp.app _ _)
   refine⟨by omega,u,.ref (h++[O.lst []]).length,h++[O.lst []]++[O.tup [u,.ref h.length]],by simp only [itm,QA,kp _ _ hp,Option.map,hu],rfl,?_,kp.trans kq,K++[(a,h.length)],?_,?_,?_,?_⟩
   ·simp only [ZP,Zs,evs,Qi,Qo,r7]
   ·rw [List.map_append,e,List.take_add_one,ha];rfl
   ·exact QC ⟨_,u,rfl,at0,(du.kp kp).kp kq,Qj at0⟩ (Qc (fun _ _=>PrD.kp kq) pa)
   ·rw [List.map_append,List.nodup_append]
    refine⟨nd,by simp,fun x mx y my e=>?_⟩
    obtain⟨q,mq,rfl⟩:=List.mem_map.mp mx
    have:y=h.length:=by simpa using my
    have lt:q.2<h.length:=by
     obtain⟨i,hi⟩:=List.getElem?_of_mem mq;obtain⟨_,_,_,_,_,_,_,c⟩:=YI pa hi;exact(List.getElem?_eq_some_iff.mp c).1
    omega
   ·intro q mq
    rcases List.mem_append.mp mq with mq | mq
    ·exact ge q mq
    ·rw [List.mem_singleton.mp mq]
     exact Kp.len kp)
  (fun acc h ⟨kp,_⟩=>by
   have:us[nms.length]?=none:=by rw [List.getElem?_eq_none_iff];omega
   simp only [itm,QA,kp _ _ hp,Option.map,this]) nms.length 0 (us.length+1) [] hs (by omega) (by omega) ⟨Kp.refl _,[],by simp,.nil,by simp,by simp⟩
 exact⟨vs,h2,K,g1,k2,by simpa using e2,p2,n2,ge⟩
noncomputable def F0:Fu:=fun _=>[]
theorem Qi9{T:Tbl}{hs:Hs}{l:Nat}{vs:List U}{K:Ky}(hl:hs[l]?=some (.lst vs))(p:PySem.Paired (PrD hs) vs K)(h:(K.map (·.1)).Nodup):biU T .dict [.ref l] hs=some (.ref hs.length,hs++[.dct (kv K)]):=by
 show(Qd2 (.ref l) hs).bind _=_;simp only [Qd2,hl,Option.bind,QgV p,Option.map,Qi2 h]
theorem QaE{s:List U}{m:Nat}{h0:Hs}{u:U}{D:Wb}(dw:DW h0 u D)(lr:D.rows.length<=100000)(ls:szR D.rows<=900000)(lw:wtR D.rows<=900000)(mp:∀row∈D.rows,∀lp∈row,∀a∈lp.ps,a∈upN D.rows):
  ∃h2 p K,Qa (tb s) (m+2) 0 [u] h0=some (.ref p,h2)/\FS h0 p K (Qjz D.rows F0) h2/\K.map (·.1)=dnN D.rows:=by
 obtain⟨h1,us,c1,k1,hp,pu⟩:=QlK (s:=s) (m:=m) dw lr ls
 have ld:(dnN D.rows).length<=900000:=by rw [Qhv,Qbx];exact ls
 rw [cl0,Qn8];show ∃h2 p K,fin (exs (tb s) (Qa (tb s) (m+1)) 100 _ _ _)=_/\_;generalize Qa (tb s) (m+1)=cf at c1 ⊢;generalize tb s=T at c1 ⊢;obtain⟨vs,h2,K,g1,k2,eK,p2,n2,ge⟩:=Qgw (T:=T) (cf:=cf) (d:=91) (ρ:=[some u,none,none,none,none,none,none]) rfl hp pu ld
 have nd:(K.map (·.1)).Nodup:=by rw [eK];exact Qlb _
 have sr:Ze T (ev T cf 96) [some u,none,none,none,none,none,none] (.seq (.call 1 [(.var 0)])) h0=some (.seqL (.ref h0.length),h1):=by
  have k1:wkS T (.ref h0.length) h1=some (.seqL (.ref h0.length)):=by simp only [wkS,QA,hp]
  simp only [Ze,QY,evs,Qi,List.getElem?_cons_zero,Qo,c1,k1,Option.map]
 have tn:QZ T (.seqL (.ref h0.length)) h1=us.length+1:=by simp only [QZ,QA,hp,Option.getD_some]
 have vc:=Jc (d:=96) (t:=none) (el:=.tup [(.var 7),(.lst [])]) sr (by rw [tn];exact g1)
 have kq:Kp h2 (h2++[O.lst vs]):=Kp.app _ _;have dc:=Qi9 (T:=T) (hs:=h2++[O.lst vs]) (l:=h2.length) at0 (Qc (fun _ _=>PrD.kp kq) p2) nd
 have x1:ex T cf 99 (.set 1 (.bi .dict [cmD])) [some u,none,none,none,none,none,none] h0=some (.next,[some u,some (.ref (h2++[O.lst vs]).length),none,none,none,none,none],h2++[O.lst vs]++[.dct (kv K)]):=by
  refine Yk ?_;rw [Yy];simp only [evs,cmD,vc,Qo,dc]
 have k3:Kp h2 (h2++[O.lst vs]++[.dct (kv K)]):=kq.trans (Kp.app _ _);have kh:=k1.trans (k2.trans k3)
 have fs:FS h0 (h2++[O.lst vs]).length K F0 (h2++[O.lst vs]++[.dct (kv K)]):=by
  refine⟨kh,?_,at0,⟨nd,n2,fun q mq=>?_⟩,fun q mq=>?_⟩
  ·have:=Kp.len (k1.trans (k2.trans kq));exact this
  ·obtain⟨i,hi⟩:=List.getElem?_of_mem mq;obtain⟨_,_,_,_,_,_,_,c⟩:=YI p2 hi;exact⟨[],k3 _ _ c,.nil⟩
  ·have:=ge q mq;have:=Kp.len k1;omega
 obtain⟨ρ2,h3,e3,r1,fs3⟩:=Qi6 (T:=T) (cf:=cf) (d:=81) dw (fun row mr lp ml a ma=>by rw [eK,QbY];exact mp row mr lp ml a ma) fs (fun a=>by simpa [F0]using lw)
 refine⟨h3,_,K,?_,fs3,eK⟩;rw [Qn x1,Qn e3];exact JU (d:=96) (Yl r1)
noncomputable def Ql9:E:=(.bi .len [(.ix (.var 0) (.c (.int 0 0)))])
noncomputable def Qf9:E:=(.bi .len [(.ix (.ix (.var 0) (.c (.int 0 0))) (.var 2))])
noncomputable def Qn4:List S:=[(.put (.var 1) (.tup [(.var 2),(.var 3)]) (.lst []))]
noncomputable def Qn5:List S:=[(.loop (.name 3) (.rng Qf9) Qn4)]
noncomputable def QoE:S:=(.loop (.name 2) (.rng Ql9) Qn5)
noncomputable def QpZ:List S:=[(.expr (.bm .append (.ix (.var 1) (.var 4)) [(.tup [(.var 2),(.var 3)])]))]
noncomputable def Qn2:List S:=[(.loop (.name 4) (.seq (.ix (.ix (.ix (.ix (.var 0) (.c (.int 0 0))) (.var 2)) (.var 3)) (.c (.int 0 0)))) QpZ)]
noncomputable def Qn3:List S:=[(.loop (.name 3) (.rng Qf9) Qn2)]
noncomputable def QoD:S:=(.loop (.name 2) (.rng Ql9) Qn3)
theorem QlQ:b13=[(.set 1 .dnewT),QoE,QoD,(.ret (.var 1))]:=rfl
theorem QpD{s:List U}{m:Nat}{a:U}{hs:Hs}:Qa (tb s) (m+1) 13 [a] hs=fin (exs (tb s) (Qa (tb s) m) dd b13 [some a,none,none,none,none] hs):=rfl
theorem FS.put{T:Tbl}{cf:Cf}{d p r q:Nat}{h0 hs:Hs}{K:Ky}{u:U}{o4:Option U}(h:FS h0 p K F0 hs)(na:((r:Int),(q:Int))∉K.map (·.1))(l:K.length<1000000):
  ∃h2,exs T cf (d+6) Qn4 [some u,some (.ref p),some (.int r 0),some (.int q 0),o4] hs=some (.next,[some u,some (.ref p),some (.int r 0),some (.int q 0),o4],h2)/\FS h0 p (K++[(((r:Int),(q:Int)),hs.length)]) F0 h2:=by
 have lk:(kv K).length<1000000:=by simpa [kv]using l
 have nk:nmK ((r:Int),(q:Int))∉(kv K).map (·.1):=fun m=>by
  rw [JD]at m;obtain⟨b,mb,e⟩:=List.mem_map.mp m;rw [Qa2 e]at mb;exact na mb
 have dn:DN (hs++[O.lst []]++[O.tup [.int r 0,.int q 0]]) (.ref (hs++[O.lst []]).length) ((r:Int),(q:Int)):=⟨_,rfl,at0⟩;have hd:(hs++[O.lst []]++[O.tup [.int r 0,.int q 0]])[p]?=some (.dct (kv K)):=Qj (Qj h.di)
 have pt:QaX (.ref p) (.ref (hs++[O.lst []]).length) (.ref hs.length) (hs++[O.lst []]++[O.tup [.int r 0,.int q 0]])=some ((hs++[O.lst []]++[O.tup [.int r 0,.int q 0]]).set p (.dct (kv (K++[(((r:Int),(q:Int)),hs.length)])))):=by
  simp only [QaX,hd,Qbh,lk,if_true,QcL dn,Option.map_some,QdA nk];simp [kv]
 have lp:p<hs.length:=(List.getElem?_eq_some_iff.mp h.di).1
 have kp2:∀(i:Nat) o,i≠p->hs[i]?=some o->((hs++[O.lst []]++[O.tup [.int r 0,.int q 0]]).set p (.dct (kv (K++[(((r:Int),(q:Int)),hs.length)]))))[i]?=some o:=fun i o ne e=>by
  rw [List.getElem?_set_ne (Ne.symm ne)];exact Qj (Qj e)
 refine⟨(hs++[O.lst []]++[O.tup [.int r 0,.int q 0]]).set p (.dct (kv (K++[(((r:Int),(q:Int)),hs.length)]))),?_,⟨(h.kp.trans ((Kp.app _ _).trans (Kp.app _ _))).put h.lp,h.lp,?_,⟨?_,?_,?_⟩,?_⟩⟩
 ·refine Qr ?_;simp only [Qcn,Zs,ZP,Qi,evs,Qo,List.getElem?_cons_succ,List.getElem?_cons_zero,pt,Option.map]
 ·rw [List.getElem?_set_self];simp;omega
 ·rw [List.map_append,List.nodup_append]
  refine⟨h.df.ky,by simp,fun x mx y my e=>na ?_⟩
  have:y=((r:Int),(q:Int)):=by simpa using my
  rw [<-this,<-e];exact mx
 ·rw [List.map_append,List.nodup_append]
  refine⟨h.df.pl,by simp,fun x mx y my e=>?_⟩
  obtain⟨z,mz,rfl⟩:=List.mem_map.mp mx
  have:y=hs.length:=by simpa using my
  obtain⟨us,hz,_⟩:=h.df.ls z mz;have:=(List.getElem?_eq_some_iff.mp hz).1;omega
 ·intro z mz
  rcases List.mem_append.mp mz with mz | mz
  ·obtain⟨us,hz,pz⟩:=h.df.ls z mz
   have e0:us=[]:=by cases pz;rfl
   subst e0
   exact⟨[],kp2 _ _ (fun e=>by rw [e,h.di]at hz;cases hz) hz,.nil⟩
  ·rw [List.mem_singleton.mp mz]
   exact⟨[],by rw [List.getElem?_set_ne (by omega)];exact Qj at0,.nil⟩
 ·intro z mz
  rcases List.mem_append.mp mz with mz | mz
  ·exact h.ge z mz
  ·rw [List.mem_singleton.mp mz];exact Kp.len h.kp
theorem Qfp{T:Tbl}{cf:Cf}{d n i:Nat}{a:E}{body:List S}{ρ ρ2:Rho}{hs h2:Hs}(va:ev T cf d a ρ hs=some (.int (n:Int) 0,hs))(l:n<=1000000)(g:ZE T (.rng 0 n) (.name i) (exs T cf d body) (n+1) 0 ρ hs=some (.next,ρ2,h2)):ex T cf (d+1) (.loop (.name i) (.rng a) body) ρ hs=some (.next,ρ2,h2):=ZF (YC va l) g
theorem Qc6{T:Tbl}{cf:Cf}{d a r j:Nat}{u:U}{o3 o4 w:Option U}{hs:Hs}{ra vs:List U}(sa:QH T u (.int 0 0) hs=some (.ref a))(ha:hs[a]?=some (.lst ra))(hr:ra[r]?=some (.ref j))(hj:hs[j]?=some (.lst vs)):ev T cf (d+5) Qf9 [some u,w,some (.int r 0),o3,o4] hs=some (.int (vs.length:Int) 0,hs):=by
 have s2:QH T (.ref a) (.int (r:Int) 0) hs=some (.ref j):=by simp only [QH,ha];exact Qcj hr
 simp only [Qf9,Yy,evs,Zq,Qi,y_c,Qo,List.getElem?_cons_succ,List.getElem?_cons_zero,sa,Option.map,s2,Zb hj]
theorem Qjq{T:Tbl}{cf:Cf}{d p r a j:Nat}{h0 hs:Hs}{K:Ky}{u:U}{o3:Option U}{ra vs:List U}(sa:∀(T:Tbl) hs,Kp h0 hs->QH T u (.int 0 0) hs=some (.ref a))(ha:h0[a]?=some (.lst ra))(hr:ra[r]?=some (.ref j))(hj:h0[j]?=some (.lst vs))
  (h:FS h0 p K F0 hs) {pre:List Nm} (ep:K.map (·.1)=pre) (nd:(pre++Y3 r vs.length).Nodup) (l:pre.length+vs.length<=900000):
  ∃o3' h2 K',exs T cf (d+8) Qn5 [some u,some (.ref p),some (.int r 0),o3,none] hs=some (.next,[some u,some (.ref p),some (.int r 0),o3',none],h2)/\FS h0 p K' F0 h2/\K'.map (·.1)=pre++Y3 r vs.length:=by
 obtain⟨ρ2,h2,g1,⟨o3',rfl⟩,K',g2,g3⟩:=Qd9 (T:=T) (w:=.rng 0 vs.length) (t:=.name 3) (body:=exs T cf (d+6) Qn4) (n:=vs.length) (fun q ρ hs=>(∃o3,ρ=[some u,some (.ref p),some (.int r 0),o3,none])/\∃K:Ky,FS h0 p K F0 hs/\K.map (·.1)=pre++Y3 r q)
  (fun q hq ρ hs ⟨⟨o3,e⟩,K,fs,eK⟩=>by
   subst e
   have lK:K.length=pre.length+q:=by
    have:=congrArg List.length eK;simpa [ZA]using this
   have na:((r:Int),(q:Int))∉K.map (·.1):=by
    rw [eK];intro m
    rcases List.mem_append.mp m with m | m
    ·rw [List.nodup_append]at nd;exact nd.2.2 _ m _ (mem_rowN.mpr ⟨rfl,q,hq,rfl⟩) rfl
    ·obtain⟨_,k,hk,e⟩:=mem_rowN.mp m;simp only at e;omega
   obtain⟨h2,e1,e2⟩:=fs.put (T:=T) (cf:=cf) (d:=d) (u:=u) (o4:=none) na (by omega)
   refine⟨.one (.int q 0),_,_,h2,by simp [itm,hq],rfl,e1,⟨_,rfl⟩,_,e2,?_⟩
   rw [List.map_append,eK,Qaa,List.append_assoc]
   rfl)
  (fun ρ hs _=>by simp [itm]) vs.length 0 (vs.length+1) _ hs (by omega) (by omega) ⟨⟨o3,rfl⟩,K,h,by simpa [Y3]using ep⟩
 exact⟨o3',h2,K',Qr (Qfp (d:=d+6) (Qc6 (d:=d+1) (sa T hs h.kp) (h.kp _ _ ha) hr (h.kp _ _ hj)) (by omega) g1),g2,g3⟩
theorem QgD{T:Tbl}{cf:Cf}{d p:Nat}{h0 hs:Hs}{u:U}{D:Wb}(dw:DW h0 u D)(lr:D.rows.length<=100000)(ls:szR D.rows<=900000)(h:FS h0 p [] F0 hs):
  ∃o2 o3 h2 K,ex T cf (d+9) QoE [some u,some (.ref p),none,none,none] hs=some (.next,[some u,some (.ref p),o2,o3,none],h2)/\FS h0 p K F0 h2/\K.map (·.1)=upN D.rows:=by
 obtain⟨a,ra,sa,ha,pa⟩:=Qi5 dw;have el:=Qg pa
 have ln:∀k,k<=D.rows.length->(Jh id D.rows k).length<=900000:=fun k hk=>by
  have h1:=Qa1 (g:=id) (rows:=D.rows) hk;have h2:=Qbx D.rows;unfold upN at h2;omega
 obtain⟨ρ2,h2,g1,⟨o2,o3,rfl⟩,K,g2,g3⟩:=Qd9 (T:=T) (w:=.rng 0 ra.length) (t:=.name 2) (body:=exs T cf (d+8) Qn5) (n:=ra.length) (fun r ρ hs=>(∃o2 o3,ρ=[some u,some (.ref p),o2,o3,none])/\∃K:Ky,FS h0 p K F0 hs/\K.map (·.1)=Jh id D.rows r)
  (fun r hr ρ hs ⟨⟨o2,o3,e⟩,K,fs,eK⟩=>by
   subst e
   obtain⟨row,hrow⟩:∃row,D.rows[r]?=some row:=⟨_,List.getElem?_eq_getElem (by omega)⟩
   have er:D.rows.getD r []=row:=by rw [List.getD_eq_getElem?_getD,hrow];rfl
   obtain⟨v,hv,j,vs,rfl,hj,pv⟩:=YI pa hrow;have evl:=Qg pv
   have e1:Jh id D.rows (r+1)=Jh id D.rows r++Y3 r vs.length:=by rw [ZW,id,er,evl]
   have l1:=ln (r+1) (by omega)
   have nd:(Jh id D.rows (r+1)).Nodup:=Qa3 fun i j h _=>by simp only [id];omega
   rw [e1]at l1 nd;rw [List.length_append,ZA]at l1;obtain⟨o3',h2,K',c1,c2,c3⟩:=Qjq (T:=T) (cf:=cf) (d:=d) (o3:=o3) sa ha hv hj fs eK nd l1
   exact⟨.one (.int r 0),_,_,h2,by simp [itm,hr],rfl,c1,⟨_,_,rfl⟩,K',c2,by rw [e1];exact c3⟩)
  (fun ρ hs _=>by simp [itm]) ra.length 0 (ra.length+1) _ hs (by omega) (by omega) ⟨⟨none,none,rfl⟩,[],h,by simp [Jh]⟩
 refine⟨o2,o3,h2,K,Qfp (n:=ra.length) ?_ (by omega) g1,g2,by rw [g3,el];rfl⟩
 simp only [Ql9,Yy,evs,Zq,Qi,y_c,Qo,List.getElem?_cons_zero,sa T hs h.kp,Option.map,Zb (h.kp _ _ ha)]
theorem Qjr{T:Tbl}{cf:Cf}{d p r q a j:Nat}{h0 hs:Hs}{K:Ky}{f:Fu}{u v:U}{o4:Option U}{lp:Lp}{ra vs:List U}(sa:∀(T:Tbl) hs,Kp h0 hs->QH T u (.int 0 0) hs=some (.ref a))(ha:h0[a]?=some (.lst ra))(hr:ra[r]?=some (.ref j))(hj:h0[j]?=some (.lst vs))(hq:vs[q]?=some v)
  (dl:DL h0 v lp) (mp:∀a∈lp.ps,a∈K.map (·.1)) (h:FS h0 p K f hs) (l:∀a,(f a).length+lp.ps.length<=900000):
  ∃o4' h2,exs T cf (d+14) Qn2 [some u,some (.ref p),some (.int r 0),some (.int q 0),o4] hs=some (.next,[some u,some (.ref p),some (.int r 0),some (.int q 0),o4'],h2)/\FS h0 p K (Qhm ((r:Int),(q:Int)) lp.ps f) h2:=by
 obtain⟨i,k,us,rfl,hi,hk,pu⟩:=dl
 obtain⟨ρ2,h2,g1,⟨o4',rfl⟩,g3⟩:=Qlf (T:=T) (cf:=cf) (d:=d) (iF:=1) (iA:=4) (e1:=.var 2) (e2:=.var 3) (x:=((r:Int),(q:Int))) (fun ρ=>∃o,ρ=[some u,some (.ref p),some (.int r 0),some (.int q 0),o]) hk pu mp
  (fun ρ w ⟨o,e⟩=>by subst e;exact⟨⟨some w,rfl⟩,rfl,rfl,fun hs=>⟨Yl rfl,Yl rfl⟩⟩) h l ⟨o4,rfl⟩
 refine⟨o4',h2,Qr (ZF (w:=.seqT (.ref k)) (h1:=hs) ?_ ?_),g3⟩
 ·have s1:QH T (.ref i) (.int 0 0) hs=some (.ref k):=by simp only [QH,h.kp _ _ hi];exact Qcj (i:=0) rfl
  have s2:QH T (.ref a) (.int (r:Int) 0) hs=some (.ref j):=by simp only [QH,h.kp _ _ ha];exact Qcj hr
  have s3:QH T (.ref j) (.int (q:Int) 0) hs=some (.ref i):=by simp only [QH,h.kp _ _ hj];exact Qcj hq
  simp only [Ze,Zq,Qi,y_c,Qo,List.getElem?_cons_succ,List.getElem?_cons_zero,sa T hs h.kp,s1,s2,s3,Option.map,Qod (h.kp _ _ hk)]
 ·rw [Qof (h.kp _ _ hk)];exact g1
theorem Qjp{T:Tbl}{cf:Cf}{d p r a j:Nat}{h0 hs:Hs}{K:Ky}{f:Fu}{u:U}{o3 o4:Option U}{row:List Lp}{ra vs:List U}(sa:∀(T:Tbl) hs,Kp h0 hs->QH T u (.int 0 0) hs=some (.ref a))(ha:h0[a]?=some (.lst ra))(hr:ra[r]?=some (.ref j))(hj:h0[j]?=some (.lst vs))
  (pv:PySem.Paired (DL h0) vs row) (mp:∀lp∈row,∀a∈lp.ps,a∈K.map (·.1)) (h:FS h0 p K f hs) (l:∀a,(f a).length+wtL row<=900000) (lv:vs.length<=900000):
  ∃o3' o4' h2,exs T cf (d+16) Qn3 [some u,some (.ref p),some (.int r 0),o3,o4] hs=some (.next,[some u,some (.ref p),some (.int r 0),o3',o4'],h2)/\FS h0 p K (Qjo r row f) h2:=by
 have el:=Qg pv
 obtain⟨ρ2,h2,g1,⟨o3',o4',rfl⟩,g3⟩:=Qea (T:=T) (w:=.rng 0 vs.length) (t:=.name 3) (body:=exs T cf (d+14) Qn2) (fun ρ=>∃o3 o4,ρ=[some u,some (.ref p),some (.int r 0),o3,o4]) (fun q (lp:Lp) f=>Qhm ((r:Int),(q:Int)) lp.ps f) (fun lp=>lp.ps.length) (fun i lp f a=>JO _ _ f a) row
  (fun q lp hq ρ hs f ⟨o3,o4,e⟩ fs lf=>by
   subst e;obtain⟨w,hw,dw⟩:=YI pv hq;have lt:=(List.getElem?_eq_some_iff.mp hw).1;obtain⟨o4',h2,g1,g2⟩:=Qjr (T:=T) (cf:=cf) (d:=d) (o4:=o4) sa ha hr hj hw dw (mp lp (List.mem_of_getElem? hq)) fs lf
   exact⟨.one (.int q 0),_,_,h2,by simp [itm,lt],rfl,g1,⟨_,_,rfl⟩,g2⟩)
  (fun hs k=>by simp [itm,el]) ⟨o3,o4,rfl⟩ h l
 rw [<-el]at g1
 exact⟨o3',o4',h2,Qr (Qfp (d:=d+14) (Qc6 (d:=d+9) (sa T hs h.kp) (h.kp _ _ ha) hr (h.kp _ _ hj)) (by omega) g1),g3⟩
theorem Qdl:∀{rows:List (List Lp)} {row:List Lp},row∈rows->row.length<=szR rows
 | [],_,m=>by simp at m
 | r::rows,row,m=>by
  simp only [szR,List.map_cons,List.sum_cons]
  rcases List.mem_cons.mp m with rfl | m
  ·omega
  ·have:=Qdl m;unfold szR at this;omega
theorem QgC{T:Tbl}{cf:Cf}{d p:Nat}{h0 hs:Hs}{K:Ky}{f:Fu}{u:U}{o2 o3:Option U}{D:Wb}(dw:DW h0 u D)(lr:D.rows.length<=100000)(ls:szR D.rows<=900000)(mp:∀row∈D.rows,∀lp∈row,∀a∈lp.ps,a∈K.map (·.1))(h:FS h0 p K f hs)(l:∀a,(f a).length+wtR D.rows<=900000):
  ∃ρ2 h2,ex T cf (d+17) QoD [some u,some (.ref p),o2,o3,none] hs=some (.next,ρ2,h2)/\ρ2[1]?=some (some (.ref p))/\FS h0 p K (Qjz D.rows f) h2:=by
 obtain⟨a,ra,sa,ha,pa⟩:=Qi5 dw;have el:=Qg pa
 obtain⟨ρ2,h2,g1,⟨o2',o3',o4',rfl⟩,g3⟩:=Qea (T:=T) (w:=.rng 0 ra.length) (t:=.name 2) (body:=exs T cf (d+16) Qn3) (fun ρ=>∃o2 o3 o4,ρ=[some u,some (.ref p),o2,o3,o4]) (fun r row f=>Qjo r row f) wtL (fun i lp f a=>JP _ _ f a) D.rows
  (fun r row hr ρ hs f ⟨o2,o3,o4,e⟩ fs lf=>by
   subst e;obtain⟨w,hw,j,vs,rfl,hj,pv⟩:=YI pa hr;have lt:=(List.getElem?_eq_some_iff.mp hw).1;have lv:=Qdl (List.mem_of_getElem? hr);have ev:=Qg pv
   obtain⟨o3',o4',h2,g1,g2⟩:=Qjp (T:=T) (cf:=cf) (d:=d) (o3:=o3) (o4:=o4) sa ha hw hj pv (mp row (List.mem_of_getElem? hr)) fs lf (by omega)
   exact⟨.one (.int r 0),_,_,h2,by simp [itm,lt],rfl,g1,⟨_,_,_,rfl⟩,g2⟩)
  (fun hs k=>by simp [itm,el]) ⟨o2,o3,none,rfl⟩ h l
 rw [<-el]at g1
 refine⟨[some u,some (.ref p),o2',o3',o4'],h2,Qfp (n:=ra.length) ?_ (by omega) g1,rfl,g3⟩
 simp only [Ql9,Yy,evs,Zq,Qi,y_c,Qo,List.getElem?_cons_zero,sa T hs h.kp,Option.map,Zb (h.kp _ _ ha)]
theorem Qji{s:List U}{m:Nat}{h0:Hs}{u:U}{D:Wb}(dw:DW h0 u D)(lr:D.rows.length<=100000)(ls:szR D.rows<=900000)(lw:wtR D.rows<=900000)(mp:∀row∈D.rows,∀lp∈row,∀a∈lp.ps,a∈upN D.rows):
  ∃h2 p K,Qa (tb s) (m+1) 13 [u] h0=some (.ref p,h2)/\FS h0 p K (Qjz D.rows F0) h2/\K.map (·.1)=upN D.rows:=by
 rw [QpD,QlQ];show ∃h2 p K,fin (exs (tb s) (Qa (tb s) m) 100 _ _ _)=_/\_;generalize Qa (tb s) m=cf;generalize tb s=T
 have x1:ex T cf 99 (.set 1 .dnewT) [some u,none,none,none,none] h0=some (.next,[some u,some (.ref h0.length),none,none,none],h0++[.dct []]):=Yk (by rw [QjF])
 have fs:FS h0 h0.length [] F0 (h0++[.dct []]):=⟨Kp.app _ _,Nat.le_refl _,at0,⟨by simp,by simp,fun q m=>by simp at m⟩,fun q m=>by simp at m⟩
 obtain⟨o2,o3,h2,K,g1,g2,g3⟩:=QgD (T:=T) (cf:=cf) (d:=89) dw lr ls fs
 obtain⟨ρ2,h3,e3,r1,fs3⟩:=QgC (T:=T) (cf:=cf) (d:=80) (o2:=o2) (o3:=o3) dw lr ls (fun row mr lp ml a ma=>by rw [g3];exact mp row mr lp ml a ma) g2 (fun a=>by simpa [F0]using lw)
 refine⟨h3,_,K,?_,fs3,g3⟩;rw [Qn x1,Qn g1,Qn e3];exact JU (d:=95) (Yl r1)
noncomputable def QnY:List S:=[(.ite (.or (.cmp .NotIn (.var 2) (.var 0)) (.or (.not (.call 5 [(.ix (.var 0) (.var 2))])) (.cmp .NotEq (.ix (.var 0) (.var 2)) (.ix (.var 1) (.var 2))))) [(.ret (.c (.bl false)))] [])]
noncomputable def QoH:S:=(.ite (.or (.not (.isi (.var 0) .dict)) (.cmp .NotEq (.bi .len [(.var 0)]) (.bi .len [(.var 1)]))) [(.ret (.c (.bl false)))] [])
theorem QlP:b14=[QoH,(.loopK 2 (.var 1) QnY),(.ret (.c (.bl true)))]:=rfl
theorem QpC{s:List U}{m:Nat}{a b:U}{hs:Hs}:Qa (tb s) (m+1) 14 [a,b] hs=fin (exs (tb s) (Qa (tb s) m) dd b14 [some a,some b,none] hs):=rfl
theorem Qc2{T:Tbl}{cf:Cf}{d i n:Nat}{e:E}{body:List S}{ρ ρ':Rho}{hs h2:Hs}{kvs kvs2:List (List U×U)}(he:ev T cf d e ρ hs=some (.ref n,hs))(hn:hs[n]?=some (.dct kvs))(hf:Qeu i (exs T cf d body) (kvs.map (·.1)) ρ (hs.set n (.fzt kvs))=some (.next,ρ',h2))(h2n:h2[n]?=some (.fzt kvs2)):ex T cf (d+1) (.loopK i e body) ρ hs=some (.next,ρ',h2.set n (.dct kvs2)):=by
 have dc:Qbk (.ref n) hs hs=none:=by simp only [Qbk,hn]
 have dt:QeL (.ref n) hs hs=some (n,kvs):=by simp only [QeL,hn]
 rw [ex,he,Qo,dc];simp only [dt];rw [hf];simp only [thawT,h2n]
theorem Qde{hs h2:Hs}{p:Nat}{x y:O}(hp:hs[p]?=some y)(k:Kp (hs.set p x) h2):h2[p]?=some x/\Kp hs (h2.set p y):=by
 have lp:=(List.getElem?_eq_some_iff.mp hp).1
 have e:=k p x (by rw [List.getElem?_set_self lp])
 have lp2:=(List.getElem?_eq_some_iff.mp e).1;refine⟨e,fun i o h=>?_⟩;by_cases z:i=p
 ·subst z;rw [hp]at h;cases h;rw [List.getElem?_set_self lp2]
 ·rw [List.getElem?_set_ne (Ne.symm z)]
  exact k i o (by rw [List.getElem?_set_ne (Ne.symm z)];exact h)
theorem DF.frz{hs:Hs}{K K2:Ky}{f:Fu}{p:Nat}{y:O}(h:DF hs K f)(hp:hs[p]?=some (.dct (kv K2))):DF (hs.set p y) K f :=
 ⟨h.ky,h.pl,fun q m=>let ⟨us,a,b⟩:=h.ls q m;⟨us,by
  have ne:p≠q.2:=fun z=>by rw [<-z,hp]at a;cases a
  rw [List.getElem?_set_ne ne]
  exact a,Qc (fun _ _ z=>z.mono (TK.set hp (by simp))) b⟩⟩
theorem Qlg{T:Tbl}{p:Nat}{hs:Hs}{K:Ky}(h:hs[p]?=some (.dct (kv K))):biU T .len [.ref p] hs=some (.int K.length 0,hs):=by
 unfold biU;simp only [ZN,h,Qmd,Option.map];simp [kv]
theorem Qpk{T:Tbl}{p j:Nat}{hs:Hs}{K:Ky}{u:U}{a:Nm}(hp:hs[p]?=some (.dct (kv K)))(k:(K.map (·.1)).Nodup)(m:(a,j)∈K)(h:DN hs u a):Zn T .NotIn u (.ref p) hs=some false:=by
 simp only [Zn,ZN,hp,inD,ZL,QcL h,Option.map,Yc k m];rfl
theorem Qhl{s:List U}{m p1 p2:Nat}{hs:Hs}{K1 K2:Ky}{F:Fu}(h1:hs[p1]?=some (.dct (kv K1)))(h2:hs[p2]?=some (.dct (kv K2)))(d1:DF hs K1 F)(d2:DF hs K2 F)(ne:p1≠p2)(sub:∀a∈K2.map (·.1),a∈K1.map (·.1))(len:K1.length=K2.length):
  ∃hs',Qa (tb s) (m+4) 14 [.ref p1,.ref p2] hs=some (.bl true,hs')/\Kp hs hs':=by
 have CL:=fun(p:Nat) (H:Hs) (us:List U) (nms:List Nm) (a:H[p]?=some (.lst us)) (b:PySem.Paired (DN H) us nms)=>Qgy (s:=s) (m:=m) a b;rw [QpC,QlP];show ∃hs',fin (exs (tb s) (Qa (tb s) (m+3)) 100 _ _ _)=_/\_;generalize Qa (tb s) (m+3)=cf at CL ⊢;generalize tb s=T
 have z1:(hs.set p2 (.fzt (kv K2)))[p1]?=some (.dct (kv K1)):=by rw [List.getElem?_set_ne (Ne.symm ne)];exact h1
 have z2:(hs.set p2 (.fzt (kv K2)))[p2]?=some (.fzt (kv K2)):=List.getElem?_set_self (List.getElem?_eq_some_iff.mp h2).1;have f1:=d1.frz (y:=.fzt (kv K2)) h2;have f2:=d2.frz (y:=.fzt (kv K2)) h2
 obtain⟨ρ2,h3,g1,⟨o,rfl⟩,k3⟩:=Qi1 (v:=2) (body:=exs T cf 97 QnY) (ks:=(kv K2).map (·.1)) (fun j ρ h=>(∃o,ρ=[some (.ref p1),some (.ref p2),o])/\Kp (hs.set p2 (.fzt (kv K2))) h)
  (fun j k hk ρ h ⟨⟨o,e⟩,kp⟩=>by
   subst e;rw [JD]at hk
   obtain⟨a,ma,ek⟩:∃a,a∈K2.map (·.1)/\nmK a=k:=by
    obtain⟨x,hx,e⟩:=List.mem_map.mp (List.mem_of_getElem? hk);exact⟨x,hx,e⟩
   subst ek;obtain⟨j2,m2⟩:=Qee ma;obtain⟨j1,m1⟩:=Qee (sub a ma);have ka:Kp (hs.set p2 (.fzt (kv K2))) (h++[.tup (nmK a)]):=kp.trans (Kp.app _ _);have dn:DN (h++[.tup (nmK a)]) (.ref h.length) a:=⟨_,rfl,at0⟩;obtain⟨us1,hu1,pu1⟩:=(f1.kp ka).ls _ m1;obtain⟨us2,hu2,pu2⟩:=(f2.kp ka).ls _ m2;have kb:Kp (h++[.tup (nmK a)]) (h++[.tup (nmK a)]++[O.lst [],O.lst []]):=Kp.app _ _;have c1:=CL j1 (h++[.tup (nmK a)]) us1 (F a) hu1 pu1;have n1:=Qpk (T:=T) (ka _ _ z1) f1.ky m1 dn;have s1:=QhG (T:=T) (ka _ _ z1) f1.ky m1 dn;have s1':=QhG (T:=T) (kb _ _ (ka _ _ z1)) f1.ky m1 (dn.kp kb);have s2':=QmE (T:=T) (kb _ _ (ka _ _ z2)) f2.ky m2 (dn.kp kb);have eq:=Qng (T:=T) (kb _ _ hu1) (kb _ _ hu2) (Qc (fun _ _=>DN.kp kb) pu1) (Qc (fun _ _=>DN.kp kb) pu2)
   have nq:Zn T .NotEq (.ref j1) (.ref j2) (h++[.tup (nmK a)]++[O.lst [],O.lst []])=some false:=by
    simp only [Zn];rw [eq];rfl
   refine⟨[some (.ref p1),some (.ref p2),some (.ref h.length)],h++[.tup (nmK a)]++[O.lst [],O.lst []],?_,⟨_,rfl⟩,ka.trans kb⟩;refine Qr ?_
   have t:evT T cf 95 (.or (.cmp .NotIn (.var 2) (.var 0)) (.or (.not (.call 5 [(.ix (.var 0) (.var 2))])) (.cmp .NotEq (.ix (.var 0) (.var 2)) (.ix (.var 1) (.var 2))))) [some (.ref p1),some (.ref p2),some (.ref h.length)] (h++[.tup (nmK a)])=some (false,h++[.tup (nmK a)]++[O.lst [],O.lst []]):=by
    simp only [Qho,QP,Q6,Qbt,QaM,QY,evs,Zq,Qi,Qo,List.getElem?_cons_succ,List.getElem?_cons_zero,n1,s1,c1,s1',s2',Zj,Option.map,Bool.not_true,Bool.false_eq_true,if_false,nq]
   rw [show([some (.ref p1),some (.ref p2),o]:Rho).set 2 (some (.ref h.length))=[some (.ref p1),some (.ref p2),some (.ref h.length)]from rfl,Yj,t,Qo,if_neg (by decide),Q3])
  ((kv K2).map (·.1)) 0 [some (.ref p1),some (.ref p2),none] (hs.set p2 (.fzt (kv K2))) rfl (by omega) ⟨⟨_,rfl⟩,Kp.refl _⟩
 obtain⟨w1,w2⟩:=Qde h2 k3;refine⟨h3.set p2 (.dct (kv K2)),?_,w2⟩
 have i1:QcZ T .dict (.ref p1) hs=some true:=by simp only [QcZ,Qa8,h1];rfl
 have x1:ex T cf 99 QoH [some (.ref p1),some (.ref p2),none] hs=some (.next,[some (.ref p1),some (.ref p2),none],hs):=by
  refine Qc1 ?_;simp only [Qho,Qbt,QjG,Qfn,QP,Q6,Yy,evs,Qi,Qo,List.getElem?_cons_succ,List.getElem?_cons_zero,i1,Qlg h1,Qlg h2,Zj,Option.map,Bool.not_true,Bool.false_eq_true,if_false,Zn,eq_int,len,decide_true]
 have x2:ex T cf 98 (.loopK 2 (.var 1) QnY) [some (.ref p1),some (.ref p2),none] hs=some (.next,[some (.ref p1),some (.ref p2),o],h3.set p2 (.dct (kv K2))):=Qc2 (Yl rfl) h2 g1 w1;rw [Qn x1,Qn x2]
 exact JU (d:=96) (by rw [y_c])
noncomputable def QnZ:List S:=[(.expr (.bm .append (.ix (.var 3) (.var 4)) [(.tup [(.c (.int 0 0)),(.c (.int 0 0))])]))]
noncomputable def Qoe:S:=(.ite (.or (.not (.call 14 [(.var 3),(.var 2)])) (.cmp .NotEq (.var 1) (.call 12 [(.var 0)]))) [(.ret (.c (.bl false)))] [])
theorem QlO:b15=[(.set 1 (.call 12 [(.var 0)])),(.set 2 (.call 13 [(.var 1)])),(.set 3 (.call 0 [(.var 1)])),Qoe,(.loopK 4 (.var 2) QnZ),(.ret (.and (.call 14 [(.call 0 [(.var 1)]),(.var 2)]) (.cmp .Eq (.var 1) (.call 12 [(.var 0)]))))]:=rfl
theorem QpB{s:List U}{m:Nat}{a:U}{hs:Hs}:Qa (tb s) (m+1) 15 [a] hs=fin (exs (tb s) (Qa (tb s) m) dd b15 [some a,none,none,none,none] hs):=rfl
theorem FS.frz{h0 hs:Hs}{p p2:Nat}{K K2:Ky}{f:Fu}{y:O}(h:FS h0 p K f hs)(hp:h0[p2]?=some (.dct (kv K2))):FS (h0.set p2 y) p K f (hs.set p2 y):=by
 have lp:=(List.getElem?_eq_some_iff.mp hp).1;have hp2:=h.kp _ _ hp;have lp2:=(List.getElem?_eq_some_iff.mp hp2).1;have hl:=h.lp
 refine⟨fun i o e=>?_,by simpa using h.lp,?_,h.df.frz hp2,fun q m=>by simpa using h.ge q m⟩
 ·by_cases z:p2=i
  ·subst z;rw [List.getElem?_set_self lp]at e;cases e;rw [List.getElem?_set_self lp2]
  ·rw [List.getElem?_set_ne z]at e ⊢;exact h.kp i o e
 ·rw [List.getElem?_set_ne (by omega)]
  exact h.di
theorem QjH{rows:List (List Lp)}(h:∀row∈rows,∀lp∈row,lp.ps.length<=8):wtR rows<=8*szR rows:=by
 have one:∀row:List Lp,(∀lp∈row,lp.ps.length<=8)->wtL row<=8*row.length:=by
  intro row
  induction row with
  | nil=>intro _;simp [wtL]
  | cons a r ih =>
   intro h;have h1:=h a List.mem_cons_self;have h2:=ih fun b m=>h b (List.mem_cons_of_mem _ m);simp only [wtL,List.map_cons,List.sum_cons,List.length_cons]at h2 ⊢;omega
 induction rows with
 | nil=>simp [wtR,szR]
 | cons a r ih =>
  have h1:=one a (h a List.mem_cons_self);have h2:=ih fun b m=>h b (List.mem_cons_of_mem _ m);simp only [wtR,szR,List.map_cons,List.sum_cons]at h2 ⊢;omega
theorem QnU{ns:List Int}{m:Nat}{hs:Hs}:∃hs',Qa (tb (ns.map fun n=>U.int n 0)) (m+5) 15 [.scr] hs=some (.bl true,hs'):=by
 have WEB:=fun hs:Hs=>Qmo (ns:=ns) (m:=m) (hs:=hs);have vw:=QjL ns
 have lz:sz (Jb ns)<=5000:=by
  have t:=Ju (cel ns) (W0 (QU ns)) (Qjs _);have lc:=QeV ns
  have lm:QU ns<9:=by have:=Int.emod_lt_of_pos (c0 ns) (show(0:Int) < 9 by decide);unfold QU;omega
  have z0:=QlY (QU ns);have e:sz (Jb ns)=sz ((cel ns).foldl turn (W0 (QU ns))):=rfl;omega
 have lr:(Qfs (Jb ns)).rows.length<=100000:=by
  have:(Jb ns).rows.length<=sz (Jb ns):=by unfold sz;omega
  show((Jb ns).rows++[(Jb ns).new]).length<=100000;rw [List.length_append,List.length_singleton];omega
 have ls:szR (Qfs (Jb ns)).rows<=5000:=by
  show szR ((Jb ns).rows++[(Jb ns).new])<=5000
  have:szR ((Jb ns).rows++[(Jb ns).new])<=sz (Jb ns):=by
   simp only [szR,List.map_append,List.sum_append,List.map_cons,List.map_nil,List.sum_cons,List.sum_nil,sz];omega
  omega
 have lw:wtR (Qfs (Jb ns)).rows<=40000:=by
  have:=QjH (rows:=(Qfs (Jb ns)).rows) vw.ps;omega
 have mp:∀row∈(Qfs (Jb ns)).rows,∀lp∈row,∀a∈lp.ps,a∈upN (Qfs (Jb ns)).rows:=fun row mr lp ml a ma=>Qmt (vw.rows row mr lp ml a ma);generalize (ns.map fun n=>U.int n 0)=s at WEB ⊢;generalize Qfs (Jb ns)=D at WEB lr ls lw mp
 have lF:∀a,(Qjz D.rows F0 a).length<=40000:=fun a=>by
  have:=Z3 (g:=fun r row f=>Qjo r row f) (wt:=wtL) (fun i row f a=>JP i row f a) D.rows 0 F0 a;simp only [F0,List.length_nil,Nat.zero_add]at this;exact Nat.le_trans this lw
 obtain⟨h1,u,g1,k1,d1⟩:=WEB hs
 obtain⟨h2,p2,K2,g2,f2,e2⟩:=Qji (s:=s) (m:=m+3) d1 lr (by omega) (by omega) mp
 have d2:=d1.kp f2.kp
 obtain⟨h3,p1,K1,g3,f3,e3⟩:=QaE (s:=s) (m:=m+2) d2 lr (by omega) (by omega) mp
 have lp2:=(List.getElem?_eq_some_iff.mp f2.di).1
 have np:p1≠p2:=by have:=f3.lp;omega
 have sub:∀a∈K2.map (·.1),a∈K1.map (·.1):=fun a m=>by rw [e3,QbY,<-e2];exact m
 have len:K1.length=K2.length:=by
  have a1:=congrArg List.length e3;have a2:=congrArg List.length e2;rw [Qhv]at a1;simp only [List.length_map]at a1 a2;omega
 have lK2:K2.length<=5000:=by
  have a2:=congrArg List.length e2;rw [Qbx]at a2;simp only [List.length_map]at a2;omega
 obtain⟨h4,g4,k4⟩:=Qhl (s:=s) (m:=m) f3.di (f3.kp _ _ f2.di) f3.df (f2.df.kp f3.kp) np sub len;obtain⟨h5,u5,g5,k5,d5⟩:=WEB h4;have q5:=Qly (T:=tb s) (d2.kp (f3.kp.trans (k4.trans k5))) d5;have f5:=f3.more (k4.trans k5);have f5z:=f5.frz (y:=.fzt (kv K2)) f2.di;have dz:DF (h5.set p2 (.fzt (kv K2))) K2 (Qjz D.rows F0):=(f2.df.kp f5.kp).frz (f5.kp _ _ f2.di)
 obtain⟨ρ6,h6,g6,⟨o,rfl⟩,fl,f6,l6⟩:=Qi1 (v:=4) (body:=exs (tb s) (Qa (tb s) (m+4)) 94 QnZ) (ks:=(kv K2).map (·.1)) (fun j ρ h=>(∃o,ρ=[some .scr,some u,some (.ref p2),some (.ref p1),o])/\∃f,FS (h2.set p2 (.fzt (kv K2))) p1 K1 f h/\∀a,(f a).length<=40000+j)
  (fun j k hk ρ h ⟨⟨o,e⟩,f,fs,lf⟩=>by
   subst e
   have lj:j<K2.length:=by
    have:=(List.getElem?_eq_some_iff.mp hk).1;simpa [kv]using this
   rw [JD]at hk
   obtain⟨a,ma,ek⟩:∃a,a∈K2.map (·.1)/\nmK a=k:=by
    obtain⟨x,hx,e⟩:=List.mem_map.mp (List.mem_of_getElem? hk);exact⟨x,hx,e⟩
   subst ek
   obtain⟨h7,q1,q2⟩:=QdB (T:=tb s) (cf:=Qa (tb s) (m+4)) (d:=82) (iF:=3) (iA:=4) (ρ:=[some .scr,some u,some (.ref p2),some (.ref p1),some (.ref h.length)]) (u:=.ref h.length) (a:=a) (x:=(0,0)) (e1:=.c (.int 0 0)) (e2:=.c (.int 0 0)) (fs.more (Kp.app h [.tup (nmK a)])) rfl rfl ⟨_,rfl,at0⟩ (sub a ma) (by have:=lf a;omega) (by rw [y_c]) (by rw [y_c])
   exact⟨_,h7,q1,⟨_,rfl⟩,_,q2,fun b=>by have:=Jt (x:=(0,0)) 0 a f b;have:=lf b;omega⟩)
  ((kv K2).map (·.1)) 0 [some .scr,some u,some (.ref p2),some (.ref p1),none] (h5.set p2 (.fzt (kv K2))) rfl (by omega) ⟨⟨_,rfl⟩,_,f5z,fun a=>by have:=lF a;omega⟩
 obtain⟨w1,w2⟩:=Qde f2.di f6.kp;generalize hG:h6.set p2 (.dct (kv K2))=G at w2;have dG:=d2.kp w2
 obtain⟨h7,p7,K7,g7,f7,e7⟩:=QaE (s:=s) (m:=m+2) dG lr (by omega) (by omega) mp
 have np7:p7≠p2:=by have:=f7.lp;have:=Kp.len w2;omega
 have sub7:∀a∈K2.map (·.1),a∈K7.map (·.1):=fun a m=>by rw [e7,QbY,<-e2];exact m
 have len7:K7.length=K2.length:=by
  have a1:=congrArg List.length e3;have a2:=congrArg List.length e7;rw [<-a1]at a2;simp only [List.length_map]at a2;omega
 obtain⟨h8,g8,k8⟩:=Qhl (s:=s) (m:=m) f7.di (f7.kp _ _ (w2 _ _ f2.di)) f7.df (f2.df.kp (w2.trans f7.kp)) np7 sub7 len7;obtain⟨h9,u9,g9,k9,d9⟩:=WEB h8;have q9:=Qly (T:=tb s) (dG.kp (f7.kp.trans (k8.trans k9))) d9;refine⟨h9,?_⟩;rw [QpB,QlO];show fin (exs (tb s) (Qa (tb s) (m+4)) 100 _ _ _)=_;have x1:ex (tb s) (Qa (tb s) (m+4)) 99 (.set 1 (.call 12 [(.var 0)])) [some .scr,none,none,none,none] hs=some (.next,[some .scr,some u,none,none,none],h1):=Yk (JY (d:=96) (u:=.scr) rfl g1);have x2:ex (tb s) (Qa (tb s) (m+4)) 98 (.set 2 (.call 13 [(.var 1)])) [some .scr,some u,none,none,none] h1=some (.next,[some .scr,some u,some (.ref p2),none,none],h2):=Yk (JY (d:=95) (u:=u) rfl g2);have x3:ex (tb s) (Qa (tb s) (m+4)) 97 (.set 3 (.call 0 [(.var 1)])) [some .scr,some u,some (.ref p2),none,none] h2=some (.next,[some .scr,some u,some (.ref p2),some (.ref p1),none],h3):=Yk (JY (d:=94) (u:=u) rfl g3)
 have x4:ex (tb s) (Qa (tb s) (m+4)) 96 Qoe [some .scr,some u,some (.ref p2),some (.ref p1),none] h3=some (.next,[some .scr,some u,some (.ref p2),some (.ref p1),none],h5):=by
  refine Qc1 ?_;generalize Qa (tb s) (m+4)=cf at g4 g5 ⊢;generalize tb s=T at q5 ⊢;simp only [Qho,Qbt,QaM,QY,QP,Q6,evs,Qi,Qo,List.getElem?_cons_succ,List.getElem?_cons_zero,g4,g5,Zj,Option.map,Bool.not_true,Bool.false_eq_true,if_false,Zn,q5]
 have x5:ex (tb s) (Qa (tb s) (m+4)) 95 (.loopK 4 (.var 2) QnZ) [some .scr,some u,some (.ref p2),some (.ref p1),none] h5=some (.next,[some .scr,some u,some (.ref p2),some (.ref p1),o],G):=by
  rw [<-hG];exact Qc2 (Yl rfl) (f5.kp _ _ f2.di) g6 w1
 rw [Qn x1,Qn x2,Qn x3,Qn x4,Qn x5];refine JU (d:=93) ?_;generalize Qa (tb s) (m+4)=cf at g7 g8 g9 ⊢;generalize tb s=T at q9 ⊢;simp only [Qfo,QY,evs,Qi,Q6,Qo,List.getElem?_cons_succ,List.getElem?_cons_zero,g7,g8,g9,Zn,q9,Option.map]
theorem comp(ns:List Int)(hl:ns.length<=63):∃s hs',PySem.Paired (fun(u:U) (i:Int)=>∃r m,u=.int r m/\∃q:Int,i=r+m*q) s ns/\Qa (tb s) 6 15 [.scr] []=some (.bl true,hs'):=by
 obtain⟨hs',e⟩:=QnU (ns:=ns) (m:=1) (hs:=[]);exact⟨_,hs',QgX ns,e⟩
theorem ar1{α:Type}{P:List α->Prop}(h:∀a,P [a]):∀us:List α,us.length=1->P us | [a],_=>h a
theorem ar2{α:Type}{P:List α->Prop}(h:∀a0 a1,P [a0,a1]):∀us:List α,us.length=2->P us | b::r,e=>ar1 (P:=fun l=>P (b::l)) (fun a1=>h b a1) r (Nat.succ.inj e)
theorem ar3{α:Type}{P:List α->Prop}(h:∀a0 a1 a2,P [a0,a1,a2]):∀us:List α,us.length=3->P us | b::r,e=>ar2 (P:=fun l=>P (b::l)) (fun a1 a2=>h b a1 a2) r (Nat.succ.inj e)
theorem ar4{α:Type}{P:List α->Prop}(h:∀a0 a1 a2 a3,P [a0,a1,a2,a3]):∀us:List α,us.length=4->P us | b::r,e=>ar3 (P:=fun l=>P (b::l)) (fun a1 a2 a3=>h b a1 a2 a3) r (Nat.succ.inj e)
theorem sc0:FnScope N0 ["web"] (Qb st0):=⟨rfl,rfl,rfl,by decide +kernel,rfl,by decide +kernel,by decide +kernel⟩
theorem sc1:FnScope N1 ["web"] (Qb st1):=⟨rfl,rfl,rfl,by decide +kernel,rfl,by decide +kernel,by decide +kernel⟩
theorem sc2:FnScope N2 ["_law_script","_law_k"] (Qb st2):=⟨rfl,rfl,rfl,by decide +kernel,rfl,by decide +kernel,by decide +kernel⟩
theorem sc3:FnScope N3 ["_law_found"] (Qb st3):=⟨rfl,rfl,rfl,by decide +kernel,rfl,by decide +kernel,by decide +kernel⟩
theorem sc4:FnScope N4 ["_law_found"] (Qb st4):=⟨rfl,rfl,rfl,by decide +kernel,rfl,by decide +kernel,by decide +kernel⟩
theorem sc5:FnScope N5 ["_law_found"] (Qb st5):=⟨rfl,rfl,rfl,by decide +kernel,rfl,by decide +kernel,by decide +kernel⟩
theorem sc6:FnScope N6 ["_law_web_here","_law_parents","_law_cell","_law_lift"] (Qb st6):=⟨rfl,rfl,rfl,by decide +kernel,rfl,by decide +kernel,by decide +kernel⟩
theorem sc7:FnScope N7 ["_law_web_here"] (Qb st7):=⟨rfl,rfl,rfl,by decide +kernel,rfl,by decide +kernel,by decide +kernel⟩
theorem sc8:FnScope N8 ["_law_web_here","_law_name_here","_law_more"] (Qb st8):=⟨rfl,rfl,rfl,by decide +kernel,rfl,by decide +kernel,by decide +kernel⟩
theorem sc9:FnScope N9 ["_law_web_here","_law_more"] (Qb st9):=⟨rfl,rfl,rfl,by decide +kernel,rfl,by decide +kernel,by decide +kernel⟩
theorem Qo9:FnScope N10 ["_law_web_here","_law_some","_law_more"] (Qb Qfi):=⟨rfl,rfl,rfl,by decide +kernel,rfl,by decide +kernel,by decide +kernel⟩
theorem Qo8:FnScope N11 ["_law_web_here","_law_cell"] (Qb Qfh):=⟨rfl,rfl,rfl,by decide +kernel,rfl,by decide +kernel,by decide +kernel⟩
theorem Qo7:FnScope N12 ["_law_script"] (Qb Qfg):=⟨rfl,rfl,rfl,by decide +kernel,rfl,by decide +kernel,by decide +kernel⟩
theorem Qo6:FnScope N13 ["_law_web_here"] (Qb Qff):=⟨rfl,rfl,rfl,by decide +kernel,rfl,by decide +kernel,by decide +kernel⟩
theorem Qo5:FnScope N14 ["_law_told_here","_law_due"] (Qb Qfe):=⟨rfl,rfl,rfl,by decide +kernel,rfl,by decide +kernel,by decide +kernel⟩
theorem Qo4:FnScope N15 ["_law_script"] (Qb Qdn):=⟨rfl,rfl,rfl,by decide +kernel,rfl,by decide +kernel,by decide +kernel⟩
noncomputable abbrev BO(T:Tbl)(N:List Str)(st:Stmt)(l:Bool)(b:List S):Prop:=compSs 100 ⟨T,N,(Qb st).names,glo,QnW,l⟩ (Qk st)=some b
theorem bo0(s:List U):BO (tb s) N0 st0 false b0:=by kernel_rfl
theorem bo1(s:List U):BO (tb s) N1 st1 false b1:=by kernel_rfl
theorem bo2(s:List U):BO (tb s) N2 st2 false b2:=by kernel_rfl
theorem bo3(s:List U):BO (tb s) N3 st3 false b3:=by kernel_rfl
theorem bo4(s:List U):BO (tb s) N4 st4 false b4:=by kernel_rfl
theorem bo5(s:List U):BO (tb s) N5 st5 false b5:=by kernel_rfl
theorem bo6(s:List U):BO (tb s) N6 st6 false b6:=by kernel_rfl
theorem bo7(s:List U):BO (tb s) N7 st7 false b7:=by kernel_rfl
theorem bo8(s:List U):BO (tb s) N8 st8 false b8:=by kernel_rfl
theorem bo9(s:List U):BO (tb s) N9 st9 false b9:=by kernel_rfl
theorem QpX(s:List U):BO (tb s) N10 Qfi false b10:=by kernel_rfl
theorem QpW(s:List U):BO (tb s) N11 Qfh false b11:=by kernel_rfl
theorem QpV(s:List U):BO (tb s) N12 Qfg false b12:=by kernel_rfl
theorem QpU(s:List U):BO (tb s) N13 Qff false b13:=by kernel_rfl
theorem QpT(s:List U):BO (tb s) N14 Qfe false b14:=by kernel_rfl
theorem QpS(s:List U):BO (tb s) N15 Qdn true b15:=by kernel_rfl
theorem QlL(s:List U):Qcm (tb s) glo QnW:=Qe5 (.cons (bo0 s) (.cons (bo1 s) (.cons (bo2 s) (.cons (bo3 s) (.cons (bo4 s) (.cons (bo5 s) (.cons (bo6 s) (.cons (bo7 s) (.cons (bo8 s) (.cons (bo9 s) (.cons (QpX s) (.cons (QpW s) (.cons (QpV s) (.cons (QpU s) (.cons (QpT s) (.cons (QpS s) .nil))))))))))))))))
noncomputable abbrev fI(K:W.Frag)(c:Addr)(x:Str)(v:Option Value):Prop:=W.findIn K (.ref c) x=some v
noncomputable abbrev kO(K:W.Frag)(c d:Addr)(b:Bool):Prop:=W.kitOne K (.ref c) (.ref d)=some b
theorem all_mk{l:W.OpenLaw}{w:World}{K:W.Frag}{h:Heap}{mg:Str->Option Value}{f0 f1 f2 f3 f4 f5 f6 f7 f8 f9 f10 f11 f12 f13 f14 f15 fa:Addr}(X:K.In h)(G:h.Ns mainGlobals mg)(hfa:mg "law"=some (.ref fa))
  {od0 od1 od2 od3 od4 od5 od6 od7 od8 od9 od10 od11 od12 od13 od14 od15 an0 an1 an2 an3 an4 an5 an6 an7 an8 an9 an10 an11 an12 an13 an14 an15:Option Addr} {sl0 sl1 sl2 sl3 sl4 sl5 sl6 sl7 sl8 sl9 sl10 sl11 sl12 sl13 sl14 sl15:Array (Option Value)} {oc0 oc1 oc2 oc3 oc4 oc5 oc6 oc7 oc8 oc9 oc10 oc11 oc12 oc13 oc14 oc15 kV0 kV1 kV2 kV3 kV4 kV5 kV6 kV7 kV8 kV9 kV10 kV11 kV12 kV13 kV14 kV15 dc0 dc1 dc2 dc3 dc4 dc5 dc6 dc7 dc8 dc9 dc10 dc11 dc12 dc13 dc14 dc15 pm0 pm1 pm2 pm3 pm4 pm5 pm6 pm7 pm8 pm9 pm10 pm11 pm12 pm13 pm14 pm15 cd0 cd1 cd2 cd3 cd4 cd5 cd6 cd7 cd8 cd9 cd10 cd11 cd12 cd13 cd14 cd15 ct0 ct1 ct2 ct3 ct4 ct5 ct6 ct7 ct8 ct9 ct10 ct11 ct12 ct13 ct14 ct15:Value}
  (a0:W.nsIn K mainGlobals "drawers"=some (some (.ref f0)))
  (l0:K.lookup f0=some ⟨oc0,od0,.func (W.fnOf "drawers" "drawers" (Qm st0) (Qk st0) (Qb st0) .none kV0 dc0 pm0 an0 cd0 ct0),sl0⟩)
  (e0:W.codeIn K cd0 "drawers"=true)
  (k0:W.keepIn K (.ref f0)=true)
  (a1:W.nsIn K mainGlobals "names_downward"=some (some (.ref f1)))
  (l1:K.lookup f1=some ⟨oc1,od1,.func (W.fnOf "names_downward" "names_downward" (Qm st1) (Qk st1) (Qb st1) .none kV1 dc1 pm1 an1 cd1 ct1),sl1⟩)
  (e1:W.codeIn K cd1 "names_downward"=true)
  (k1:W.keepIn K (.ref f1)=true)
  (a2:W.nsIn K mainGlobals "_law_cell_at"=some (some (.ref f2)))
  (l2:K.lookup f2=some ⟨oc2,od2,.func (W.fnOf "_law_cell_at" "_law_cell_at" (Qm st2) (Qk st2) (Qb st2) .none kV2 dc2 pm2 an2 cd2 ct2),sl2⟩)
  (e2:W.codeIn K cd2 "_law_cell_at"=true)
  (k2:W.keepIn K (.ref f2)=true)
  (a3:W.nsIn K mainGlobals "_law_whole"=some (some (.ref f3)))
  (l3:K.lookup f3=some ⟨oc3,od3,.func (W.fnOf "_law_whole" "_law_whole" (Qm st3) (Qk st3) (Qb st3) .none kV3 dc3 pm3 an3 cd3 ct3),sl3⟩)
  (e3:W.codeIn K cd3 "_law_whole"=true)
  (k3:W.keepIn K (.ref f3)=true)
  (a4:W.nsIn K mainGlobals "_law_name"=some (some (.ref f4)))
  (l4:K.lookup f4=some ⟨oc4,od4,.func (W.fnOf "_law_name" "_law_name" (Qm st4) (Qk st4) (Qb st4) .none kV4 dc4 pm4 an4 cd4 ct4),sl4⟩)
  (e4:W.codeIn K cd4 "_law_name"=true)
  (k4:W.keepIn K (.ref f4)=true)
  (a5:W.nsIn K mainGlobals "_law_listed"=some (some (.ref f5)))
  (l5:K.lookup f5=some ⟨oc5,od5,.func (W.fnOf "_law_listed" "_law_listed" (Qm st5) (Qk st5) (Qb st5) .none kV5 dc5 pm5 an5 cd5 ct5),sl5⟩)
  (e5:W.codeIn K cd5 "_law_listed"=true)
  (k5:W.keepIn K (.ref f5)=true)
  (a6:W.nsIn K mainGlobals "_law_gives"=some (some (.ref f6)))
  (l6:K.lookup f6=some ⟨oc6,od6,.func (W.fnOf "_law_gives" "_law_gives" (Qm st6) (Qk st6) (Qb st6) .none kV6 dc6 pm6 an6 cd6 ct6),sl6⟩)
  (e6:W.codeIn K cd6 "_law_gives"=true)
  (k6:W.keepIn K (.ref f6)=true)
  (a7:W.nsIn K mainGlobals "_law_row_end"=some (some (.ref f7)))
  (l7:K.lookup f7=some ⟨oc7,od7,.func (W.fnOf "_law_row_end" "_law_row_end" (Qm st7) (Qk st7) (Qb st7) .none kV7 dc7 pm7 an7 cd7 ct7),sl7⟩)
  (e7:W.codeIn K cd7 "_law_row_end"=true)
  (k7:W.keepIn K (.ref f7)=true)
  (a8:W.nsIn K mainGlobals "_law_put_by"=some (some (.ref f8)))
  (l8:K.lookup f8=some ⟨oc8,od8,.func (W.fnOf "_law_put_by" "_law_put_by" (Qm st8) (Qk st8) (Qb st8) .none kV8 dc8 pm8 an8 cd8 ct8),sl8⟩)
  (e8:W.codeIn K cd8 "_law_put_by"=true)
  (k8:W.keepIn K (.ref f8)=true)
  (a9:W.nsIn K mainGlobals "_law_picked"=some (some (.ref f9)))
  (l9:K.lookup f9=some ⟨oc9,od9,.func (W.fnOf "_law_picked" "_law_picked" (Qm st9) (Qk st9) (Qb st9) .none kV9 dc9 pm9 an9 cd9 ct9),sl9⟩)
  (e9:W.codeIn K cd9 "_law_picked"=true)
  (k9:W.keepIn K (.ref f9)=true)
  (a10:W.nsIn K mainGlobals "_law_crossed"=some (some (.ref f10)))
  (l10:K.lookup f10=some ⟨oc10,od10,.func (W.fnOf "_law_crossed" "_law_crossed" (Qm Qfi) (Qk Qfi) (Qb Qfi) .none kV10 dc10 pm10 an10 cd10 ct10),sl10⟩)
  (e10:W.codeIn K cd10 "_law_crossed"=true)
  (k10:W.keepIn K (.ref f10)=true)
  (a11:W.nsIn K mainGlobals "_law_step"=some (some (.ref f11)))
  (l11:K.lookup f11=some ⟨oc11,od11,.func (W.fnOf "_law_step" "_law_step" (Qm Qfh) (Qk Qfh) (Qb Qfh) .none kV11 dc11 pm11 an11 cd11 ct11),sl11⟩)
  (e11:W.codeIn K cd11 "_law_step"=true)
  (k11:W.keepIn K (.ref f11)=true)
  (a12:W.nsIn K mainGlobals "_law_web"=some (some (.ref f12)))
  (l12:K.lookup f12=some ⟨oc12,od12,.func (W.fnOf "_law_web" "_law_web" (Qm Qfg) (Qk Qfg) (Qb Qfg) .none kV12 dc12 pm12 an12 cd12 ct12),sl12⟩)
  (e12:W.codeIn K cd12 "_law_web"=true)
  (k12:W.keepIn K (.ref f12)=true)
  (a13:W.nsIn K mainGlobals "_law_above"=some (some (.ref f13)))
  (l13:K.lookup f13=some ⟨oc13,od13,.func (W.fnOf "_law_above" "_law_above" (Qm Qff) (Qk Qff) (Qb Qff) .none kV13 dc13 pm13 an13 cd13 ct13),sl13⟩)
  (e13:W.codeIn K cd13 "_law_above"=true)
  (k13:W.keepIn K (.ref f13)=true)
  (a14:W.nsIn K mainGlobals "_law_told"=some (some (.ref f14)))
  (l14:K.lookup f14=some ⟨oc14,od14,.func (W.fnOf "_law_told" "_law_told" (Qm Qfe) (Qk Qfe) (Qb Qfe) .none kV14 dc14 pm14 an14 cd14 ct14),sl14⟩)
  (e14:W.codeIn K cd14 "_law_told"=true)
  (k14:W.keepIn K (.ref f14)=true)
  (a15:W.nsIn K mainGlobals "law"=some (some (.ref f15)))
  (l15:K.lookup f15=some ⟨oc15,od15,.func (W.fnOf "law" "law" (Qm Qdn) (Qk Qdn) (Qb Qdn) .none kV15 dc15 pm15 an15 cd15 ct15),sl15⟩)
  (e15:W.codeIn K cd15 "law"=true)
  (k15:W.keepIn K (.ref f15)=true)
  (hn:W.specialIn K (.builtin "object.__class__") "__get__"=some (some (.builtin "getset_descriptor.__get__")))
  (htk:W.takesIn K (.builtin "object.__class__")=some true)
  (z_len:W.nsIn K mainGlobals "len"=some none)
  (z_int:W.nsIn K mainGlobals "int"=some none)
  (z_tuple:W.nsIn K mainGlobals "tuple"=some none)
  (z_list:W.nsIn K mainGlobals "list"=some none)
  (z_bool:W.nsIn K mainGlobals "bool"=some none)
  (z_dict:W.nsIn K mainGlobals "dict"=some none)
  (z_isinstance:W.nsIn K mainGlobals "isinstance"=some none)
  (z_range:W.nsIn K mainGlobals "range"=some none)
  (z_reversed:W.nsIn K mainGlobals "reversed"=some none)
  (z_enumerate:W.nsIn K mainGlobals "enumerate"=some none)
  (z_max:W.nsIn K mainGlobals "max"=some none)
  (z_sorted:W.nsIn K mainGlobals "sorted"=some none):
  ∃ fd : FuncData, (∀ (s : Shared) (v : Value), BindsTo s fd ⟨[v], []⟩ [("_law_script", v)]) /\ ∀ base : Heap, K.In base -> base.Ns mainGlobals mg -> FnOk l.prog w K mg base CX0 (0 + 2 * 6) fa fd ["_law_script"] (QfF K) := by
 have e:=hfa.symm.trans (W.mg_of X G a15);cases e;let adr:Addr->Adr:=fun a=>⟨fun i=>[f0,f1,f2,f3,f4,f5,f6,f7,f8,f9,f10,f11,f12,f13,f14,f15].getD i 0,fun i=>[].getD i 0,fun i=>[].getD i 0,a⟩;have F0:=QM (st:=st0) l0 e0 k0;have B0:=Q2 F0 (ps:=["web"]) (ar1 fun _=>rfl);have F1:=QM (st:=st1) l1 e1 k1;have B1:=Q2 F1 (ps:=["web"]) (ar1 fun _=>rfl);have F2:=QM (st:=st2) l2 e2 k2;have B2:=Q2 F2 (ps:=["_law_script","_law_k"]) (ar2 fun _ _=>rfl);have F3:=QM (st:=st3) l3 e3 k3;have B3:=Q2 F3 (ps:=["_law_found"]) (ar1 fun _=>rfl);have F4:=QM (st:=st4) l4 e4 k4;have B4:=Q2 F4 (ps:=["_law_found"]) (ar1 fun _=>rfl);have F5:=QM (st:=st5) l5 e5 k5;have B5:=Q2 F5 (ps:=["_law_found"]) (ar1 fun _=>rfl);have F6:=QM (st:=st6) l6 e6 k6;have B6:=Q2 F6 (ps:=["_law_web_here","_law_parents","_law_cell","_law_lift"]) (ar4 fun _ _ _ _=>rfl);have F7:=QM (st:=st7) l7 e7 k7;have B7:=Q2 F7 (ps:=["_law_web_here"]) (ar1 fun _=>rfl);have F8:=QM (st:=st8) l8 e8 k8;have B8:=Q2 F8 (ps:=["_law_web_here","_law_name_here","_law_more"]) (ar3 fun _ _ _=>rfl);have F9:=QM (st:=st9) l9 e9 k9;have B9:=Q2 F9 (ps:=["_law_web_here","_law_more"]) (ar2 fun _ _=>rfl);have F10:=QM (st:=Qfi) l10 e10 k10;have B10:=Q2 F10 (ps:=["_law_web_here","_law_some","_law_more"]) (ar3 fun _ _ _=>rfl);have F11:=QM (st:=Qfh) l11 e11 k11;have B11:=Q2 F11 (ps:=["_law_web_here","_law_cell"]) (ar2 fun _ _=>rfl);have F12:=QM (st:=Qfg) l12 e12 k12;have B12:=Q2 F12 (ps:=["_law_script"]) (ar1 fun _=>rfl);have F13:=QM (st:=Qff) l13 e13 k13;have B13:=Q2 F13 (ps:=["_law_web_here"]) (ar1 fun _=>rfl);have F14:=QM (st:=Qfe) l14 e14 k14;have B14:=Q2 F14 (ps:=["_law_told_here","_law_due"]) (ar2 fun _ _=>rfl);have F15:=QM (st:=Qdn) l15 e15 k15;have B15:=Q2 F15 (ps:=["_law_script"]) (ar1 fun _=>rfl)
 have tp:∀(s:List U) (a:Addr),Top (tb s) (adr a) K mg glo QnW:=fun s a=>QjT
  (.cons ⟨_,F0,B0,sc0,rfl,rfl⟩ (.cons ⟨_,F1,B1,sc1,rfl,rfl⟩ (.cons ⟨_,F2,B2,sc2,rfl,rfl⟩ (.cons ⟨_,F3,B3,sc3,rfl,rfl⟩ (.cons ⟨_,F4,B4,sc4,rfl,rfl⟩ (.cons ⟨_,F5,B5,sc5,rfl,rfl⟩ (.cons ⟨_,F6,B6,sc6,rfl,rfl⟩ (.cons ⟨_,F7,B7,sc7,rfl,rfl⟩ (.cons ⟨_,F8,B8,sc8,rfl,rfl⟩ (.cons ⟨_,F9,B9,sc9,rfl,rfl⟩ (.cons ⟨_,F10,B10,Qo9,rfl,rfl⟩ (.cons ⟨_,F11,B11,Qo8,rfl,rfl⟩ (.cons ⟨_,F12,B12,Qo7,rfl,rfl⟩ (.cons ⟨_,F13,B13,Qo6,rfl,rfl⟩ (.cons ⟨_,F14,B14,Qo5,rfl,rfl⟩ (.cons ⟨_,F15,B15,Qo4,rfl,rfl⟩ .nil))))))))))))))))
  .nil
  (show(fldN.all fun x=>!(mthN.contains x))=true by decide +kernel) (show fldN.Nodup by decide +kernel) .nil .nil
  .nil
  (.cons (W.mg_of X G a0) (.cons (W.mg_of X G a1) (.cons (W.mg_of X G a2) (.cons (W.mg_of X G a3) (.cons (W.mg_of X G a4) (.cons (W.mg_of X G a5) (.cons (W.mg_of X G a6) (.cons (W.mg_of X G a7) (.cons (W.mg_of X G a8) (.cons (W.mg_of X G a9) (.cons (W.mg_of X G a10) (.cons (W.mg_of X G a11) (.cons (W.mg_of X G a12) (.cons (W.mg_of X G a13) (.cons (W.mg_of X G a14) (.cons (W.mg_of X G a15) .nil)))))))))))))))) (.cons (W.mg_none_of X G z_len) (.cons (W.mg_none_of X G z_int) (.cons (W.mg_none_of X G z_tuple) (.cons (W.mg_none_of X G z_list) (.cons (W.mg_none_of X G z_bool) (.cons (W.mg_none_of X G z_dict) (.cons (W.mg_none_of X G z_isinstance) (.cons (W.mg_none_of X G z_range) (.cons (W.mg_none_of X G z_reversed) (.cons (W.mg_none_of X G z_enumerate) (.cons (W.mg_none_of X G z_max) (.cons (W.mg_none_of X G z_sorted) .nil)))))))))))) .nil .nil
 have tab:∀(s:List U) (a:Addr),Qbq l.prog w (tb s) (adr a) K:=fun s a k kvs e=>by
  simp [tb,QoL]at e
 have hX:∀(base:Heap) (s:List U) (a:Addr),XOk l.prog w K mg base (tb s) (adr a) 0:=fun base s a=>Qph (tp s a) rfl;exact⟨_,fun s v=>.of_eq rfl,fun base _ _=>Qlh (tb:=tb) (adr:=adr) (L:=15) (F:=⟨"law","law",Qdn,["_law_script"],N15,1,5,true,b15⟩) (fun _=>rfl) (fun _=>rfl) rfl rfl (fun _=>rfl) (fun _=>rfl) tp tab QlL (hX base) F15 comp⟩
theorem walk{l:W.OpenLaw}{q:Program}{loose:List Str}{XP:(Str->Option Value)->Heap->Prop}{YP:World->Heap->Prop}{d:DefRec}{K:Params->W.Frag}(hn:l.most=some 63)(hdf:d.params.defaults=[])
  (hY:∀(w:World) (h:Heap),YP w h->(K w.params).In h)
  (F:∀(w:World) (mg:Str->Option Value) (fa:Addr) (h:Heap),(K w.params).In h->h.Ns mainGlobals mg->mg d.name=some (.ref fa) ->
   ∃ fd : FuncData, (∀ (s : Shared) (u : Value), BindsTo s fd ⟨[u], []⟩ [("_law_script", u)]) /\ ∀ base : Heap, (K w.params).In base -> base.Ns mainGlobals mg -> FnOk l.prog w (K w.params) mg base CX0 (0 + 2 * 6) fa fd ["_law_script"] (QfF (K w.params))) :
  W.WalkO q loose XP YP l.row.toRowW d [] (fun f vs=>PySem.call f vs):=
 L2.walk_of (n:=63) (k:=(0+2*6)) (x:="_law_script") (CX:=fun _=>CX0) (sp:=fun w=>QfF (K w.params)) hn (by decide) hdf ⟨rfl,by decide,by decide⟩ hY F (fun _ _ a ns hl hO hS=>⟨a,ns,rfl,hS,hO,hl,fun _=>rfl⟩) fun _ _ _ _ _ z=>z
end K30
open PySem PySem.W PyProof.Rows
set_option maxRecDepth 100000 in
set_option maxHeartbeats 0 in
theorem PySem.Challenge.cw_stitchroom_k30_drawers_holds : PySem.Challenge.rw_stitchroom_k30_drawers.Holds := by
 w_on;refine W.holds_law (by kernel_rfl) fun said=>?_
 refine holds_open (q:=K30.hq) (loose:=K30.hlo) (Xt:=K30.hXt) (XP:=XL K30.hq []) (Yf:=K30.hYf) (Ya:=K30.hYa) (YP:=Hook.says (kHook K30.K K30.KA K30.hKA)) (N:=1118) K30.hleft (Hook.of (kHook K30.K K30.KA K30.hKA)) (Hook.keeps (kHook K30.K K30.KA K30.hKA)) (fun s e=>xl_of s (Bool.and_eq_true_iff.mp e).1) XL.keeps (by rfl) (by rfl) (by rfl) (fun s e=>recFacts_of (Bool.and_eq_true_iff.mp e).2) (by rfl) (by first | assumption | decide +kernel) (by decide +kernel) ⟨rfl,rfl,rfl,rfl,rfl,by decide +kernel⟩ ?hw ?hc
 (case hw=>w_witness2)
 k_fill
 refine K30.walk (l:=PySem.Challenge.rw_stitchroom_k30_drawers) rfl rfl (fun w h Y=>W.kIn_of Y) ?F
 case F =>
  intro w mg fa h KX G hmg;refine' K30.all_mk KX G hmg ?a0 ?l0 ?e0 ?k0 ?a1 ?l1 ?e1 ?k1 ?a2 ?l2 ?e2 ?k2 ?a3 ?l3 ?e3 ?k3 ?a4 ?l4 ?e4 ?k4 ?a5 ?l5 ?e5 ?k5 ?a6 ?l6 ?e6 ?k6 ?a7 ?l7 ?e7 ?k7 ?a8 ?l8 ?e8 ?k8 ?a9 ?l9 ?e9 ?k9 ?a10 ?l10 ?e10 ?k10 ?a11 ?l11 ?e11 ?k11 ?a12 ?l12 ?e12 ?k12 ?a13 ?l13 ?e13 ?k13 ?a14 ?l14 ?e14 ?k14 ?a15 ?l15 ?e15 ?k15 ?hn ?htk ?z_len ?z_int ?z_tuple ?z_list ?z_bool ?z_dict ?z_isinstance ?z_range ?z_reversed ?z_enumerate ?z_max ?z_sorted
  case a0 | l0 | e0 | k0 | a1 | l1 | e1 | k1 | a2 | l2 | e2 | k2 | a3 | l3 | e3 | k3 | a4 | l4 | e4 | k4 | a5 | l5 | e5 | k5 | a6 | l6 | e6 | k6 | a7 | l7 | e7 | k7 | a8 | l8 | e8 | k8 | a9 | l9 | e9 | k9 | a10 | l10 | e10 | k10 | a11 | l11 | e11 | k11 | a12 | l12 | e12 | k12 | a13 | l13 | e13 | k13 | a14 | l14 | e14 | k14 | a15 | l15 | e15 | k15 | hn | htk | z_len | z_int | z_tuple | z_list | z_bool | z_dict | z_isinstance | z_range | z_reversed | z_enumerate | z_max | z_sorted=>first | k_is | (delta K30.fI;k_is)
