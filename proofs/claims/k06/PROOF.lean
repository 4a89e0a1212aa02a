import PyProof.Rows.All
import Wide.All
import OpenK.AllK
import Wide.FinOn
import PyProof.EqAt
import PyProof.EqKinds
import PyProof.TupleCall
import KE.KTryMore
import PyProof.ExcArgsOwn
import PyProof.ExcBaseAll.ValueError
import PyProof.ExcAttrAll.ValueError
import PyProof.InstStoreFacts
import PySem.Challenge.RW_stitchroom_k06_sums
set_option Elab.async false
set_option linter.all false
set_option maxRecDepth 100000
set_option maxHeartbeats 4000000
namespace L2
open PySem PySem.Spec PyProof.Rows
noncomputable abbrev Key:=Sum Int Str
noncomputable def Qaq:Key->Value->Bool
 | .inl k,v=>Value.isInt k v
 | .inr x,v=>Value.isStrOf x v
noncomputable def Qma(w:World):Key->Int
 | .inl k=>hashInt k
 | .inr x=>hashStr w x
theorem QG:∀{k:Key} {v:Value},Qaq k v=true->(∃i t,k=Sum.inl i/\v=Value.int i t)\/(∃x t,k=Sum.inr x/\v=Value.str x t)
 | .inl i,v,h=>by
  obtain⟨t,e⟩:=Value.isInt_shape (k:=i) (v:=v) h
  exact .inl ⟨i,t,rfl,e⟩
 | .inr x,v,h=>by
  obtain⟨t,e⟩:=Value.isStrOf_shape (x:=x) (v:=v) h
  exact .inr ⟨x,t,rfl,e⟩
theorem QcL(i:Int)(t:Tok):Qaq (.inl i) (.int i t)=true:=by simp [Qaq,Value.isInt]
theorem QcK(x:Str)(t:Tok):Qaq (.inr x) (.str x t)=true:=by simp [Qaq,Value.isStrOf]
theorem QiC(a b:Int):decide ((Sum.inl a:Key)=Sum.inl b)=(a==b):=by
 by_cases e:a=b
 ·subst e;simp
 ·have h:¬(Sum.inl a:Key)=Sum.inl b:=fun q=>e (Sum.inl.inj q)
  rw [decide_eq_false h]
  exact(beq_eq_false_iff_ne.mpr e).symm
theorem Qiz(a b:Str):decide ((Sum.inr a:Key)=Sum.inr b)=decide (a=b):=by
 by_cases e:a=b
 ·subst e;simp
 ·have h:¬(Sum.inr a:Key)=Sum.inr b:=fun q=>e (Sum.inr.inj q)
  rw [decide_eq_false h,decide_eq_false e]
theorem QiB(a:Int)(b:Str):decide ((Sum.inl a:Key)=Sum.inr b)=false:=decide_eq_false (fun q=>nomatch q)
theorem QiA(a:Str)(b:Int):decide ((Sum.inr a:Key)=Sum.inl b)=false:=decide_eq_false (fun q=>nomatch q)
noncomputable def QB(prog:Program)(w:World):PySem.KeyKind prog w Key where
 is:=Qaq
 hash:=Qma w
 inj:=fun v a b ha hb=>by
  rcases QG ha with⟨i,t,rfl,rfl⟩ | ⟨x,t,rfl,rfl⟩
  ·rcases QG hb with⟨j,u,rfl,e⟩ | ⟨y,u,rfl,e⟩
   ·injection e with e1 _;rw [e1]
   ·exact nomatch e
  ·rcases QG hb with⟨j,u,rfl,e⟩ | ⟨y,u,rfl,e⟩
   ·exact nomatch e
   ·injection e with e1 _;rw [e1]
 byValue:=fun k v h=>by
  rcases QG h with⟨i,t,rfl,rfl⟩ | ⟨x,t,rfl,rfl⟩<;>rfl
 pyHash:=fun hv h=>by
  rcases QG hv with⟨i,t,rfl,rfl⟩ | ⟨x,t,rfl,rfl⟩
  ·exact wpAny_pyHash_int h
  ·exact wpAny_pyHash_str h
 eqBool:=fun hu hv h=>by
  rcases QG hu with⟨i,t,rfl,rfl⟩ | ⟨x,t,rfl,rfl⟩
  ·rcases QG hv with⟨j,u,rfl,rfl⟩ | ⟨y,u,rfl,rfl⟩
   ·rw [QiC]at h;exact wpAny_eqBool_int h
   ·rw [QiB]at h;exact SeqAt.EqAt.int_str i t y u _ _ _ _ h
  ·rcases QG hv with⟨j,u,rfl,rfl⟩ | ⟨y,u,rfl,rfl⟩
   ·rw [QiA]at h;exact SeqAt.EqAt.str_int x t j u _ _ _ _ h
   ·rw [Qiz]at h;exact wpAny_eqBool_str h
 «strs»:=fun k x t v h=>by
  rcases QG h with⟨i,u,rfl,e⟩ | ⟨y,u,rfl,e⟩
  ·exact nomatch e
  ·injection e with e1 _
   subst e1
   cases v<;>rfl
theorem Qam(prog:Program)(w:World)(i:Int)(t:Tok):(QB prog w).is (.inl i) (.int i t)=true:=QcL i t
theorem Qal(prog:Program)(w:World)(x:Str)(t:Tok):(QB prog w).is (.inr x) (.str x t)=true:=QcK x t
end L2
namespace L2
open PySem PySem.Spec PyProof.Rows
inductive V where
 | non | bl (b:Bool) | int (i:Int) | str (x:Str) | byt (b:Array UInt8) | flt (b:UInt64) | ref (a:Addr) | ty (n:String)
 deriving DecidableEq
noncomputable def RelV:V->Value->Prop
 | .non,u=>u=Value.none
 | .bl b,u=>u=Value.bool b
 | .int i,u=>∃t,u=Value.int i t
 | .str x,u=>∃t,u=Value.str x t
 | .byt b,u=>∃t,u=Value.bytes b t
 | .flt b,u=>∃t,u=Value.float b t
 | .ref a,u=>u=Value.ref a
 | .ty n,u=>u=Value.type n
noncomputable abbrev Vals:List V->List Value->Prop:=Paired RelV
theorem Vals.length{xs:List V}{us:List Value}(r:Vals xs us):xs.length=us.length:=Paired.length r
theorem Vals.get:∀{xs:List V} {us:List Value} {i:Nat} {x:V},Vals xs us->xs[i]?=some x->∃u,us[i]?=some u/\RelV x u
 | _,_,_,_,.nil,e=>by simp at e
 | _,_,0,_,.cons r _,e=>by simp at e;subst e;exact⟨_,rfl,r⟩
 | _,_,i+1,x,.cons _ t,e=>by
  obtain⟨u,h1,h2⟩:=Vals.get (i:=i) (x:=x) t (by simpa using e)
  exact⟨u,by simpa using h1,h2⟩
theorem Vals.append:∀{xs ys:List V} {us ws:List Value},Vals xs us->Vals ys ws->Vals (xs++ys) (us++ws)
 | _,_,_,_,.nil,s=>s
 | _,_,_,_,.cons r t,s=>.cons r (Vals.append t s)
theorem Vals.take:∀{xs:List V} {us:List Value} (n:Nat),Vals xs us->Vals (xs.take n) (us.take n)
 | _,_,0,_=>.nil
 | _,_,_+1,.nil=>.nil
 | _,_,n+1,.cons r t=>.cons r (Vals.take n t)
theorem Vals.drop:∀{xs:List V} {us:List Value} (n:Nat),Vals xs us->Vals (xs.drop n) (us.drop n)
 | _,_,0,r=>r
 | _,_,_+1,.nil=>.nil
 | _,_,n+1,.cons _ t=>Vals.drop n t
noncomputable def RelO:Option V->Option Value->Prop
 | some v,some u=>RelV v u
 | none,none=>True
 | _,_=>False
noncomputable def KV{κ:Type}:List (κ×V)->List (κ×Value)->Prop:=Paired fun(p:κ×V) (q:κ×Value)=>p.1=q.1/\RelV p.2 q.2
noncomputable def kV:Key->V
 | .inl i=>.int i
 | .inr x=>.str x
inductive HO where
 /-- a list -/
 | lst (xs:List V)
 /-- a tuple (never changes) -/
 | tup (xs:List V)
 /-- a dict whose keys are ints and texts;one whose keys are tuples of ints and texts (the empty one is both) -/
 | dK (kvs:List (Key×V)) | dT (kvs:List (List Key×V))
 /-- a set of ints: its members,its size -/
 | set (S:Int->Bool) (n:Nat)
 /-- an instance of the class at C,its dict at dx,its attributes -/
 | ins (C dx:Addr) (fs:List (Str×V))
 /-- the dict of the instance at x -/
 | own (x:Addr)
 /-- the dict of an exception -/
 | xd (fs:List (Str×V))
 /-- a bound method,f of x -/
 | met (f x:Addr)
 /-- a range object lo,lo+1,.. below hi -/
 | rng (lo hi:Int)
 /-- a thing that is known to the object (the script;a dict while a loop walks it): read,never written while it is so -/
 | frz (o:Obj) (u:HO)
 /-- a code object's table -/
 | tbl (ps:Array Value)
 /-- any other thing,by what is true of its one object (a def of one's own: SetO a S n:=HO.ext fun h=>..) -/
 | ext (φ:Heap->Prop)
noncomputable abbrev Hp:=Addr->Option HO
noncomputable def upd(H:Hp)(a:Addr)(o:HO):Hp:=fun b=>if b=a then some o else H b
theorem Qe{H:Hp}{a:Addr}{o:HO}:upd H a o a=some o:=by unfold upd;rw [if_pos rfl]
theorem Qb{H:Hp}{a b:Addr}{o:HO}(h:b≠a):upd H a o b=H b:=by unfold upd;rw [if_neg h]
theorem QfB{H:Hp}{a:Addr}{o u:HO}:upd (upd H a o) a u=upd H a u:=by
 funext b;unfold upd;split<;>rfl
theorem Zo{H:Hp}{a b:Addr}{o:HO}(h:H a=some o)(h':H b=none):a≠b:=by
 intro e;subst e;rw [h]at h';cases h'
section
variable (P:Program)(w:World)
noncomputable def ObjOk(H:Hp)(h:Heap)(a:Addr):HO->Prop
 | .lst xs => xs.length <= sizeLine /\ ∃ (its : List Value) (n : Nat), Vals xs its /\ h.get? a = some { cls := .type "list", data := .seq its.toArray n }
 | .tup xs=>xs.length<=sizeLine/\∃its:List Value,Vals xs its/\IsTup h a its.toArray
 | .dK kvs=>kvs.length<=sizeLine/\(a==sysModules)=false/\∃vs,KV kvs vs/\h.DictOf (QB P w) a vs
 | .dT kvs=>kvs.length<=sizeLine/\(a==sysModules)=false/\∃xs:List (List Key×Addr×Value),
   Paired (fun(p:List Key×V) (q:List Key×Addr×Value)=>p.1=q.1/\H q.2.1=some (.tup (p.1.map kV))/\RelV p.2 q.2.2) kvs xs /\
   ∃o es ep,h.get? a=some o/\o.ExactDict/\o.data=.dict es ep/\es.toList=xs.map (entryOfKey (tupleKind (QB P w)))/\(xs.map (·.1)).Nodup
 | .set S n=>h.SetOf (intKind P w) a S n
 | .ins C dx fs=>H dx=some (.own a)/\fs.length<=1000/\dx≠a/\h.get? a=some (PySem.W.instObj C dx) /\
   ∃mA,h.Ns1 dx mA/\(∀f,RelO (fs.lookup f) (mA f))/\PySem.Within mA (fs.map (·.1))
 | .own _=>∃o,h.get? a=some o
 | .xd fs=>∃mA,h.Ns1 a mA/\∀f,RelO (fs.lookup f) (mA f)
 | .rng lo hi=>∃t u v,h.get? a=some { cls:=.type "range",data:=.fields #[.int lo t,.int hi u,.int 1 v] }
 | .frz o u=>h.get? a=some o/\ObjOk H h a u
 | .tbl ps=>h.get? a=some { cls:=.none,data:=.fields ps }
 | .met f x=>h.get? a=some (PySem.W.methodObj (.ref f) (.ref x))
 | .ext φ=>φ h/\(∃o,h.get? a=some o)/\∀h1 h2:Heap,φ h1->(∀o,h1.get? a=some o->h2.get? a=some o)->φ h2
noncomputable def HOk(H:Hp)(h:Heap):Prop:=∀a o,H a=some o->ObjOk P w H h a o
end
section
variable {P:Program}{w:World}{H H':Hp}{h h':Heap}{a:Addr}{o:HO}
theorem ObjOk.lt(x:ObjOk P w H h a o):a<h.objs.size:=by
 cases o with
 | lst xs=>obtain⟨_,_,_,_,e⟩:=x;exact Heap.lt_size e
 | tup xs=>obtain⟨_,_,_,p⟩:=x;exact p.lt
 | dK kvs=>obtain⟨_,_,_,_,o,_,_,e,_⟩:=x;exact Heap.lt_size e
 | dT kvs=>obtain⟨_,_,_,_,o,_,_,e,_⟩:=x;exact Heap.lt_size e
 | set S n=>obtain⟨o,_,_,_,e,_⟩:=x;exact Heap.lt_size e
 | ins C dx fs=>obtain⟨_,_,_,e,_⟩:=x;exact Heap.lt_size e
 | own y=>obtain⟨_,e⟩:=x;exact Heap.lt_size e
 | xd fs=>obtain⟨_,⟨_,_,_,e,_⟩,_⟩:=x;exact Heap.lt_size e
 | rng lo hi=>obtain⟨_,_,_,e⟩:=x;exact Heap.lt_size e
 | frz ob u=>obtain⟨e,_⟩:=x;exact Heap.lt_size e
 | tbl ps=>exact Heap.lt_size (show h.get? a=some _ from x)
 | met f y=>exact Heap.lt_size (show h.get? a=some _ from x)
 | ext φ=>obtain⟨_,⟨_,e⟩,_⟩:=x;exact Heap.lt_size e
theorem Paired.mapP{α β:Type}{F G:α->β->Prop}:∀{l₁:List α} {l₂:List β},Paired F l₁ l₂->(∀a b,F a b->G a b)->Paired G l₁ l₂
 | _,_,.nil,_=>.nil
 | _,_,.cons r t,f=>.cons (f _ _ r) (Paired.mapP t f)
theorem Paired.imp'{α β:Type}{F G:α->β->Prop}(f:∀a b,F a b->G a b){l₁:List α}{l₂:List β}(r:Paired F l₁ l₂):Paired G l₁ l₂:=Paired.mapP r f
theorem ObjOk.stay(x:ObjOk P w H h a o)(k:∀b u,(b=a\/H b=some (.own a))->h.get? b=some u->h'.get? b=some u)
  (ho:∀b,H b=some (.own a)->H' b=some (.own a)) (ht:∀b xs,H b=some (.tup xs)->H' b=some (.tup xs)):ObjOk P w H' h' a o:=by
 induction o with
 | lst xs=>obtain⟨z,its,n,r,e⟩:=x;exact⟨z,its,n,r,k _ _ (.inl rfl) e⟩
 | tup xs=>obtain⟨z,its,r,ob,e,c⟩:=x;exact⟨z,its,r,ob,k _ _ (.inl rfl) e,c⟩
 | dK kvs=>obtain⟨z,y,vs,r,ob,es,ep,e,c⟩:=x;exact⟨z,y,vs,r,ob,es,ep,k _ _ (.inl rfl) e,c⟩
 | dT kvs =>
  obtain⟨z,y,xs,r,ob,es,ep,e,c⟩:=x
  exact⟨z,y,xs,Paired.mapP r fun p q z=>⟨z.1,ht _ _ z.2.1,z.2.2⟩,ob,es,ep,k _ _ (.inl rfl) e,c⟩
 | set S n=>obtain⟨ob,es,ep,t,e,c⟩:=x;exact⟨ob,es,ep,t,k _ _ (.inl rfl) e,c⟩
 | ins C dx fs =>
  obtain⟨d,z,ne,e,mA,⟨od,es,ep,e2,c⟩,r⟩:=x
  exact⟨ho _ d,z,ne,k _ _ (.inl rfl) e,mA,⟨od,es,ep,k _ _ (.inr d) e2,c⟩,r⟩
 | own y=>obtain⟨ob,e⟩:=x;exact⟨ob,k _ _ (.inl rfl) e⟩
 | xd fs=>obtain⟨mA,⟨od,es,ep,e,c⟩,r⟩:=x;exact⟨mA,⟨od,es,ep,k _ _ (.inl rfl) e,c⟩,r⟩
 | rng lo hi=>obtain⟨t,u,v,e⟩:=x;exact⟨t,u,v,k _ _ (.inl rfl) e⟩
 | frz ob u ih=>obtain⟨e,q⟩:=x;exact⟨k _ _ (.inl rfl) e,ih q⟩
 | tbl ps =>
  have e:h.get? a=some { cls:=.none,data:=.fields ps }:=x
  show h'.get? a=some { cls:=.none,data:=.fields ps }
  exact k a _ (.inl rfl) e
 | met f y =>
  have e:h.get? a=some (PySem.W.methodObj (.ref f) (.ref y)):=x
  show h'.get? a=some (PySem.W.methodObj (.ref f) (.ref y))
  exact k a _ (.inl rfl) e
 | ext φ=>obtain⟨p,⟨o,e⟩,st⟩:=x;exact⟨st _ _ p fun o q=>k _ _ (.inl rfl) q,⟨o,k _ _ (.inl rfl) e⟩,st⟩
theorem HOk.lt(x:HOk P w H h)(e:H a=some o):a<h.objs.size:=(x a o e).lt
theorem HOk.fresh(x:HOk P w H h)(e:h.objs.size<=a):H a=none:=by
 cases q:H a with
 | none=>rfl
 | some u=>exact absurd (Nat.lt_of_lt_of_le (x.lt q) e) (Nat.lt_irrefl _)
theorem HOk.kept(x:HOk P w H h)(k:∀b u,h.get? b=some u->h'.get? b=some u):HOk P w H h':=fun a o e =>
 (x a o e).stay (fun b u _ q=>k b u q) (fun _ q=>q) fun _ _ q=>q
theorem HOk.laid(x:HOk P w H h)(k:∀b u,h.get? b=some u->h'.get? b=some u)(hp:h.objs.size<=a)(new:ObjOk P w (upd H a o) h' a o):HOk P w (upd H a o) h':=fun b u e=>by
 have hn:=x.fresh hp
 by_cases hb:b=a
 ·subst hb;rw [Qe]at e;cases e;exact new
 ·rw [Qb hb]at e
  exact(x b u e).stay (fun c v _ q=>k c v q) (fun c q=>by rw [Qb (Zo q hn)];exact q) fun c xs q=>by rw [Qb (Zo q hn)];exact q
end
noncomputable def Rd(H:Hp)(a:Addr)(u:HO):Prop:=H a=some u\/∃o,H a=some (.frz o u)
theorem Rd.ok{P:Program}{w:World}{H:Hp}{h:Heap}{a:Addr}{u:HO}(r:Rd H a u)(x:HOk P w H h):ObjOk P w H h a u:=by
 rcases r with r | ⟨o,r⟩
 ·exact x a u r
 ·obtain⟨_,q⟩:=x a _ r
  exact q
noncomputable def Mut:Option HO->Prop
 | some (.lst _)=>True
 | some (.dK _)=>True
 | some (.dT _)=>True
 | some (.set _ _)=>True
 | some (.ins _ _ _)=>True
 | some (.ext _)=>True
 | _=>False
section
variable {P:Program}{w:World}{H:Hp}{h h':Heap}{x e:Addr}{o':HO}
theorem HOk.write(ok:HOk P w H h)(mu:Mut (H x))(he:e=x\/H e=some (.own x))(k:∀b u,b≠e->h.get? b=some u->h'.get? b=some u)(heo:∃u,h'.get? e=some u)
  (new:ObjOk P w (upd H x o') h' x o'):HOk P w (upd H x o') h':=fun b u q=>by
 have nown:∀c y,H c=some (.own y)->c≠x:=fun c y r z=>by subst z;rw [r]at mu;exact mu
 have ntup:∀c xs,H c=some (.tup xs)->c≠x:=fun c xs r z=>by subst z;rw [r]at mu;exact mu
 by_cases hb:b=x
 ·subst hb;rw [Qe]at q;cases q;exact new
 ·rw [Qb hb]at q
  by_cases hbe:b=e
  ·have q':H b=some (.own x):=by
    rcases he with z | z
    ·exact absurd (hbe.trans z) hb
    ·rw [hbe];exact z
   rw [q]at q';cases q'
   obtain⟨v,hv⟩:=heo
   exact⟨v,by rw [hbe];exact hv⟩
  ·refine(ok b u q).stay (fun c v hc r=>k c v ?_ r) (fun c r=>by rw [Qb (nown c b r)];exact r) fun c xs r=>by rw [Qb (ntup c xs r)];exact r
   rcases hc with rfl | hc
   ·exact hbe
   ·rintro rfl
    rcases he with z | z
    ·exact nown c b hc z
    ·rw [hc]at z;cases z;exact hb rfl
end
structure Un(fs ex:List Addr)(H H':Hp)(h h':Heap):Prop where
 keep:∀b o,h.get? b=some o->H b=none->b∉fs->b∉ex->h'.get? b=some o
 slot:∀b o,h.get? b=some o->H b=none->b∈fs->b∉ex->∃sl,h'.get? b=some { o with slots:=sl }
 free:∀b o,h.get? b=some o->H b=none->b∉ex->H' b=none
 there:∀b o,h.get? b=some o->b∉ex->∃o',h'.get? b=some o'
 tups:∀b xs,H b=some (.tup xs)->H' b=some (.tup xs)
 frzs:∀b o u,H b=some (.frz o u)->H' b=some (.frz o u)
 tbls:∀b ps,H b=some (.tbl ps)->∃more,H' b=some (.tbl (ps++more))
section
variable {fs fs' ex ex':List Addr}{H H1 H2:Hp}{h h1 h2 h':Heap}{a x e:Addr}{o:HO}
theorem Un.any(u:Un fs ex H H1 h h1){b:Addr}{ob:Obj}(q:h.get? b=some ob)(n:H b=none)(hx:b∉ex):∃sl,h1.get? b=some { ob with slots:=sl }:=by
 by_cases hb:b∈fs
 ·exact u.slot b ob q n hb hx
 ·exact⟨ob.slots,u.keep b ob q n hb hx⟩
theorem Un.kept(k:∀b u,h.get? b=some u->h'.get? b=some u):Un fs ex H H h h' :=
 ⟨fun b ob q _ _ _=>k b ob q,fun b ob q _ _ _=>⟨ob.slots,k b ob q⟩,fun _ _ _ n _=>n,fun b ob q _=>⟨ob,k b ob q⟩,fun _ _ q=>q,fun _ _ _ q=>q,fun _ ps q=>⟨#[],by rw [q];simp⟩⟩
theorem Un.refl:Un fs ex H H h h:=Un.kept fun _ _ q=>q
theorem Un.laid(k:∀b u,h.get? b=some u->h'.get? b=some u)(hp:h.objs.size<=a)(hn:H a=none):Un fs ex H (upd H a o) h h' where
 keep:=fun b u q _ _ _=>k b u q
 slot:=fun b u q _ _ _=>⟨u.slots,k b u q⟩
 free:=fun b u q n _=>by rw [Qb (Nat.ne_of_lt (Nat.lt_of_lt_of_le (Heap.lt_size q) hp))];exact n
 there:=fun b u q _=>⟨u,k b u q⟩
 tups:=fun b xs q=>by rw [Qb (Zo q hn)];exact q
 frzs:=fun b u xs q=>by rw [Qb (Zo q hn)];exact q
 tbls:=fun b ps q=>⟨#[],by rw [Qb (Zo q hn),q];simp⟩
theorem Un.write(mu:Mut (H x))(he:e=x\/H e=some (.own x))(k:∀b u,b≠e->h.get? b=some u->h'.get? b=some u)(heo:∃u,h'.get? e=some u):Un fs ex H (upd H x o) h h':=by
 have hx:∀b,H b=none->b≠x:=fun b n z=>by subst z;rw [n]at mu;exact mu
 have hb:∀b,H b=none->b≠e:=fun b n z=>by
  subst z
  rcases he with r | r
  ·exact hx b n r
  ·rw [n]at r;cases r
 have hm:∀b u,H b=some u->¬Mut (some u)->b≠x:=fun b u q nm z=>by subst z;rw [q]at mu;exact nm mu
 refine⟨fun b u q n _ _=>k b u (hb b n) q,fun b u q n _ _=>⟨u.slots,k b u (hb b n) q⟩,fun b u q n _=>by rw [Qb (hx b n)];exact n,fun b u q _=>?_,
  fun b xs q=>by rw [Qb (hm b _ q fun z=>z)];exact q,fun b u xs q=>by rw [Qb (hm b _ q fun z=>z)];exact q,fun b ps q=>⟨#[],by rw [Qb (hm b _ q fun z=>z),q];simp⟩⟩
 by_cases hbe:b=e
 ·subst hbe;exact heo
 ·exact⟨u,k b u hbe q⟩
end
noncomputable def trk(h:Heap)(H:Hp):List Addr:=(List.range h.objs.size).filter fun a=>(H a).isSome
noncomputable def QeA(h:Heap)(H:Hp):Heap:=PySem.W.hideAll h (trk h H)
theorem QcX(h:Heap)(H:Hp):(QeA h H).objs.size=h.objs.size:=PySem.W.hideAll_size _ _
theorem Qez{h:Heap}{H:Hp}{b:Addr}{o:Obj}(e:h.get? b=some o)(n:H b=none):(QeA h H).get? b=some o :=
 PySem.W.hideAll_get _ e fun hm=>by
  have q:(H b).isSome=true:=(List.mem_filter.mp hm).2
  rw [n]at q;simp at q
theorem Qgp{h:Heap}{H:Hp}{b:Addr}{o:Obj}(e:(QeA h H).get? b=some o):h.get? b=some o/\H b=none:=by
 have e':h.get? b=some o:=PySem.W.of_hideAll (trk h H) e
 refine⟨e',?_⟩
 cases q:H b with
 | none=>rfl
 | some x =>
  have hm:b∈trk h H:=List.mem_filter.mpr ⟨List.mem_range.mpr (Heap.lt_size e'),by simp [q]⟩
  have z:(QeA h H).get? b=none:=PySem.W.hideAll_none (trk h H) hm
  rw [z]at e;cases e
end L2
namespace L2
open PySem PySem.Spec PyProof.Rows
structure Mod(K:PySem.W.Frag)(mg:Str->Option Value)(base:Heap):Prop where
 kin:K.In base
 glob:base.Ns mainGlobals mg
 blt : ∃ mb, base.Ns builtinsNs mb /\ ∀ x : Str, x ≠ "__name__" -> mb x = bootBuiltins x
 nolimit:base.NoLimit
structure Cx where
 prog:Program
 w:World
 K:PySem.W.Frag
 mg:Str->Option Value
 base:Heap
 A:Around
 N:List Str
 s₀:Shared
 H₀:Hp
 env:Env
 outer:List Env
 stack:List Env
 ex:List Addr
 fn:Str->Bool
 calm:Bool
 pn:List (Addr×Obj)
 xe:Value->Shared->Prop
noncomputable def frs(l:List Env):List Addr:=l.filterMap (·.frame)
noncomputable abbrev Cx.fs(X:Cx):List Addr:=frs X.outer
noncomputable def Vis(sc:Scope)(x:Str):Prop:=sc.names.lookup x=some .local\/sc.names.lookup x=some .cell\/sc.names.lookup x=some .free
noncomputable def Loc(sc:Scope)(x:Str):Prop:=sc.names.lookup x=some .local\/sc.names.lookup x=some .cell
noncomputable def QmO(env:Env)(h:Heap)(m:Str->Option Value)(x:Str)(u:Value):Prop :=
 (env.kindOf x=some .local/\m x=some u)\/((env.kindOf x=some .cell\/env.kindOf x=some .free)/\∃c,env.cells.lookup x=some c/\h.IsCell c (some u))
structure Cx.Ok(X:Cx):Prop where
 mod:Mod X.K X.mg X.base
 kind:X.env.scope.kind=.function
 glob:X.env.globals=mainGlobals
 blt:X.env.builtins=builtinsNs
 above:X.s₀.heap.objs.size<=X.env.locals
 inj:∀x y c,X.env.cells.lookup x=some c->X.env.cells.lookup y=some c->x=y
 has:∀x,(X.env.kindOf x=some .cell\/X.env.kindOf x=some .free)->∃c,X.env.cells.lookup x=some c
 cab:∀x c,X.fn x=true->X.env.cells.lookup x=some c->X.s₀.heap.objs.size<=c
 hd:X.calm=true->X.A.handled=none
 frames:X.A.frames=some X.stack
 stk:X.stack=X.outer\/(X.stack=X.env::X.outer/\X.env.frame=some X.env.locals)
 exf:∀b∈X.ex,b≠X.env.locals/\∀x c,X.env.cells.lookup x=some c->c≠b
 bs:∀b o,X.base.get? b=some o->X.s₀.heap.get? b=some o/\X.H₀ b=none
 bsz:X.base.objs.size<=X.s₀.heap.objs.size
 noex:∀b o,X.base.get? b=some o->b∉X.ex
 exfs:∀b∈X.ex,b∉X.fs
 funs:X.s₀.heap.FunFrames X.base X.outer
 frf:∀b∈X.fs,X.H₀ b=none
structure Inv(X:Cx)(pins:List (Addr×Obj))(σ:List (Option V))(H:Hp)(s:Shared):Prop where
 ok:X.Ok
 os:s.os=X.s₀.os
 bare:AllBare s.gens
 base:Un X.fs X.ex X.H₀ H X.s₀.heap s.heap
 loc:∃m,s.heap.Ns X.env.locals m/\∀(i:Nat) (x:Str) (v:V),X.N[i]?=some x->σ[i]?=some (some v)->Vis X.env.scope x->∃u,RelV v u/\QmO X.env s.heap m x u
 cell:∀x c,X.env.cells.lookup x=some c->∃v,s.heap.IsCell c v
 free:H X.env.locals=none
 freeC:∀x c,X.env.cells.lookup x=some c->H c=none
 pin:∀p∈X.pn++pins,s.heap.get? p.1=some p.2/\H p.1=none/\p.1≠X.env.locals/\p.1∉X.fs/\∀v,p.2.data≠.cell v
 hok:HOk X.prog X.w H s.heap
 len:σ.length=X.N.length
section
variable {X:Cx}{pins:List (Addr×Obj)}{σ:List (Option V)}{H H':Hp}{s:Shared}{h':Heap}
theorem Cx.Ok.nofr(ok:X.Ok){b:Addr}{o:Obj}(e:X.base.get? b=some o):b∉X.fs:=fun hb=>by
 have:=(ok.funs.mem hb).1
 rw [e]at this;cases this
theorem Inv.bs(I:Inv X pins σ H s):∀b o,X.base.get? b=some o->s.heap.get? b=some o/\H b=none:=fun b o e =>
 ⟨I.base.keep b o (I.ok.bs b o e).1 (I.ok.bs b o e).2 (I.ok.nofr e) (I.ok.noex b o e),I.base.free b o (I.ok.bs b o e).1 (I.ok.bs b o e).2 (I.ok.noex b o e)⟩
theorem Inv.bk(I:Inv X pins σ H s):∀b o,X.base.get? b=some o->s.heap.get? b=some o:=fun b o e=>(I.bs b o e).1
theorem Inv.mod(I:Inv X pins σ H s):Mod X.K X.mg X.base:=I.ok.mod
theorem Inv.kIn(I:Inv X pins σ H s):X.K.In s.heap:=I.ok.mod.kin.keeps I.bk
theorem Inv.lt(I:Inv X pins σ H s):X.env.locals<s.heap.objs.size:=let ⟨_,hn,_⟩:=I.loc;hn.lt
theorem Inv.sz(I:Inv X pins σ H s):X.s₀.heap.objs.size<=s.heap.objs.size:=Nat.le_trans I.ok.above (Nat.le_of_lt I.lt)
theorem Inv.nofs(I:Inv X pins σ H s){a:Addr}(h:s.heap.objs.size<=a):a∉X.fs:=fun hb=>by
 obtain⟨_,o,ho,_⟩:=I.ok.funs.mem hb
 exact absurd (Nat.lt_of_lt_of_le (Heap.lt_size ho) (Nat.le_trans I.sz h)) (Nat.lt_irrefl _)
theorem Inv.cne(I:Inv X pins σ H s):∀x c,X.env.cells.lookup x=some c->c≠X.env.locals:=fun x c e z=>by
 obtain⟨v,o,ho,hd⟩:=I.cell x c e
 obtain⟨m,⟨o',es,ep,ho',hd',_⟩,_⟩:=I.loc
 rw [z,ho']at ho;cases ho;rw [hd']at hd;cases hd
theorem Inv.funs(I:Inv X pins σ H s):s.heap.FunFrames X.base X.outer:=by
 have all:∀(l:List Env),(∀b∈frs l,b∈X.fs)->X.s₀.heap.FunFrames X.base l->s.heap.FunFrames X.base l:=by
  intro l
  induction l with
  | nil=>intro _ _;trivial
  | cons env r ih =>
   intro hs hl
   obtain⟨hk,⟨L,o,hf,hn,ho,hd⟩,hr⟩:=hl
   have hL:L∈X.fs:=hs L (by unfold frs;rw [List.filterMap_cons,hf];exact List.mem_cons_self)
   obtain⟨sl,e⟩:=I.base.slot L o ho (I.ok.frf L hL) hL fun z=>I.ok.exfs L z hL
   exact⟨hk,⟨L,_,hf,hn,e,hd⟩,ih (fun b hb=>hs b (by unfold frs;rw [List.filterMap_cons,hf];exact List.mem_cons_of_mem _ hb)) hr⟩
 exact all X.outer (fun _ hb=>hb) I.ok.funs
theorem Inv.stack(I:Inv X pins σ H s):s.heap.FunFrames X.base X.stack:=by
 rcases I.ok.stk with e | ⟨e,hf⟩
 ·rw [e];exact I.funs
 ·rw [e]
  obtain⟨m,hn,_⟩:=I.loc
  refine .cons (by rw [I.ok.kind];decide) hf hn ?_ I.funs
  exact Heap.get?_none_of_le (Nat.le_trans I.ok.bsz I.ok.above)
theorem Inv.stkSub(I:Inv X pins σ H s):∀b∈frs X.stack,b∈X.env.locals::X.fs:=fun b hb=>by
 rcases I.ok.stk with e | ⟨e,hf⟩
 ·rw [e]at hb;exact List.mem_cons_of_mem _ hb
 ·rw [e]at hb
  unfold frs at hb
  rw [List.filterMap_cons,hf]at hb
  exact hb
theorem Inv.stkFree(I:Inv X pins σ H s):∀b∈frs X.stack,H b=none:=fun b hb=>by
 rcases List.mem_cons.mp (I.stkSub b hb)with e | hb
 ·rw [e];exact I.free
 ·obtain⟨_,o,ho,_⟩:=I.ok.funs.mem hb
  exact I.base.free b o ho (I.ok.frf b hb) fun z=>I.ok.exfs b z hb
theorem Inv.step{g':Array GenState}{t':Nat}{d':Drawn}{ch:List Addr}(I:Inv X pins σ H s)
  (hch:∀b∈ch,(b∈X.ex\/X.s₀.heap.objs.size<=b)/\b≠X.env.locals/\(∀x c,X.env.cells.lookup x=some c->c≠b)/\∀p∈X.pn++pins,p.1≠b)
  (keep:∀b o,b≠X.env.locals->b∉X.fs->b∉ch->s.heap.get? b=some o->H b=none->h'.get? b=some o)
  (slot:∀b o,b≠X.env.locals->b∈X.fs->b∉ch->s.heap.get? b=some o->H b=none->∃sl,h'.get? b=some { o with slots:=sl }) (free:∀b o,b∉ch->s.heap.get? b=some o->H b=none->H' b=none)
  (there:∀b o,b∉ch->s.heap.get? b=some o->∃o',h'.get? b=some o')
  (tups:∀b xs,H b=some (.tup xs)->H' b=some (.tup xs)) (frzs:∀b o u,H b=some (.frz o u)->H' b=some (.frz o u)) (tbls:∀b ps,H b=some (.tbl ps)->∃more,H' b=some (.tbl (ps++more)))
  (ns:∀m,s.heap.Ns X.env.locals m->h'.Ns X.env.locals m) (hok:HOk X.prog X.w H' h') (hg:AllBare g'):
  Inv X pins σ H' { s with heap:=h',gens:=g',drawn:=d',toks:=t' }:=by
 have neL:∀b o,X.s₀.heap.get? b=some o->b≠X.env.locals:=fun b o e=>Nat.ne_of_lt (Nat.lt_of_lt_of_le (Heap.lt_size e) I.ok.above)
 have neC:∀b o,X.s₀.heap.get? b=some o->b∉X.ex->b∉ch:=fun b o e hx hb=>by
  rcases (hch b hb).1 with z | z
  ·exact hx z
  ·exact absurd (Nat.lt_of_lt_of_le (Heap.lt_size e) z) (Nat.lt_irrefl _)
 have cellK:∀x c,X.env.cells.lookup x=some c->∀v,s.heap.IsCell c v->h'.IsCell c v:=fun x c e v ⟨o,ho,hd⟩=>by
  have nch:c∉ch:=fun z=>(hch c z).2.2.1 x c e rfl
  by_cases hc:c∈X.fs
  ·obtain⟨sl,q⟩:=slot c o (I.cne x c e) hc nch ho (I.freeC x c e)
   exact⟨_,q,hd⟩
  ·exact⟨o,keep c o (I.cne x c e) hc nch ho (I.freeC x c e),hd⟩
 refine⟨I.ok,I.os,hg,⟨fun b o e n hb hx=>?_,fun b o e n hb hx=>?_,fun b o e n hx=>?_,fun b o e hx=>?_,fun b xs e=>tups b xs (I.base.tups b xs e),fun b o xs e=>frzs b o xs (I.base.frzs b o xs e),fun b ps e=>?_⟩,?_,fun x c e=>?_,?_,fun x c e=>?_,fun p hp=>?_,hok,I.len⟩
 ·exact keep b o (neL b o e) hb (neC b o e hx) (I.base.keep b o e n hb hx) (I.base.free b o e n hx)
 ·obtain⟨sl,e1⟩:=I.base.slot b o e n hb hx
  obtain⟨sl',e2⟩:=slot b _ (neL b o e) hb (neC b o e hx) e1 (I.base.free b o e n hx)
  exact⟨sl',e2⟩
 ·obtain⟨o',e1⟩:=I.base.there b o e hx
  exact free b o' (neC b o e hx) e1 (I.base.free b o e n hx)
 ·obtain⟨o',e1⟩:=I.base.there b o e hx
  exact there b o' (neC b o e hx) e1
 ·obtain⟨m1,e1⟩:=I.base.tbls b ps e
  obtain⟨m2,e2⟩:=tbls b _ e1
  exact⟨m1++m2,by rw [e2,Array.append_assoc]⟩
 ·obtain⟨m,hn,hl⟩:=I.loc
  refine⟨m,ns m hn,fun i x v e1 e2 e3=>?_⟩
  obtain⟨u,r,l⟩:=hl i x v e1 e2 e3
  refine⟨u,r,?_⟩
  rcases l with l | ⟨k,c,e,z⟩
  ·exact .inl l
  ·exact .inr ⟨k,c,e,cellK x c e _ z⟩
 ·obtain⟨v,z⟩:=I.cell x c e
  exact⟨v,cellK x c e v z⟩
 ·obtain⟨m,⟨o,_,_,ho,_⟩,_⟩:=I.loc
  exact free _ o (fun z=>(hch _ z).2.1 rfl) ho I.free
 ·obtain⟨v,o,ho,hd⟩:=I.cell x c e
  exact free c o (fun z=>(hch c z).2.2.1 x c e rfl) ho (I.freeC x c e)
 ·obtain⟨e,n,ne,nf,d⟩:=I.pin p hp
  have nch:p.1∉ch:=fun z=>(hch p.1 z).2.2.2 p hp rfl
  exact⟨keep p.1 p.2 ne nf nch e n,free p.1 p.2 nch e n,ne,nf,d⟩
theorem Inv.un{t':Nat}(I:Inv X pins σ H s)(u:Un X.fs [] H H' s.heap h')(hok:HOk X.prog X.w H' h'):Inv X pins σ H' { s with heap:=h',toks:=t' }:=by
 obtain⟨m,⟨o,es,ep,ho,r⟩,_⟩:=id I.loc
 obtain⟨sl,hL⟩:=u.any ho I.free (by simp)
 exact I.step (g':=s.gens) (d':=s.drawn) (ch:=[]) (fun _ z=>nomatch z) (fun b o _ hb _ e n=>u.keep b o e n hb (by simp)) (fun b o _ hb _ e n=>u.slot b o e n hb (by simp)) (fun b o _ e n=>u.free b o e n (by simp)) (fun b o _ e=>u.there b o e (by simp)) u.tups u.frzs u.tbls (fun m' hm=>by
  obtain⟨o',es',ep',ho',r'⟩:=hm
  rw [ho]at ho';cases ho'
  exact⟨_,es',ep',hL,r'⟩) hok I.bare
theorem Inv.call{g':Array GenState}{t':Nat}{d':Drawn}{ch:List Addr}(I:Inv X pins σ H s)(u:Un (frs X.stack) ch H H' s.heap h')(hok:HOk X.prog X.w H' h')(hg:AllBare g')
  (hch:∀b∈ch,(b∈X.ex\/X.s₀.heap.objs.size<=b)/\b≠X.env.locals/\(∀x c,X.env.cells.lookup x=some c->c≠b)/\∀p∈X.pn++pins,p.1≠b):
  Inv X pins σ H' { s with heap:=h',gens:=g',drawn:=d',toks:=t' }:=by
 obtain⟨m,⟨o,es,ep,ho,r⟩,_⟩:=id I.loc
 obtain⟨sl,hL⟩:=u.any ho I.free fun z=>(hch _ z).2.1 rfl
 exact I.step (ch:=ch) hch (fun b o hL hb hc e n=>u.keep b o e n (fun z=>(List.mem_cons.mp (I.stkSub b z)).elim hL hb) hc) (fun b o _ _ hc e n=>u.any e n hc) (fun b o hc e n=>u.free b o e n hc) (fun b o hc e=>u.there b o e hc) u.tups u.frzs u.tbls (fun m' hm=>by
  obtain⟨o',es',ep',ho',r'⟩:=hm
  rw [ho]at ho';cases ho'
  exact⟨_,es',ep',hL,r'⟩) hok hg
theorem Inv.turned{t':Nat}{it:Addr}(I:Inv X pins σ H s)(k:∀b o,b≠it->s.heap.get? b=some o->h'.get? b=some o)(hn:H it=none)(hL:it≠X.env.locals)
  (h1:it∈X.ex\/X.s₀.heap.objs.size<=it) (h2:∀x c,X.env.cells.lookup x=some c->c≠it) (h3:∀p∈X.pn++pins,p.1≠it):Inv X pins σ H { s with heap:=h',toks:=t' }:=by
 have nit:∀b u,H b=some u->b≠it:=fun b u e z=>by rw [z,hn]at e;cases e
 refine I.step (g':=s.gens) (d':=s.drawn) (ch:=[it]) (fun b hb=>?_) (fun b o _ _ hc e _=>k b o (fun z=>hc (by simp [z])) e) (fun b o _ _ hc e _=>⟨o.slots,k b o (fun z=>hc (by simp [z])) e⟩) (fun _ _ _ _ n=>n)
  (fun b o hc e=>⟨o,k b o (fun z=>hc (by simp [z])) e⟩) (fun _ _ e=>e) (fun _ _ _ e=>e) (fun b ps e=>⟨#[],by rw [e];simp⟩) (fun m hm=>?_) (fun b u e=>?_) I.bare
 ·have e:b=it:=by simpa using hb
  subst e
  exact⟨h1,hL,h2,h3⟩
 ·obtain⟨o,es,ep,ho,r⟩:=hm
  exact⟨o,es,ep,k _ o (Ne.symm hL) ho,r⟩
 ·refine(I.hok b u e).stay (fun c v hc q=>k c v ?_ q) (fun _ q=>q) fun _ _ q=>q
  rcases hc with z | z
  ·rw [z];exact nit b u e
  ·exact nit c _ z
theorem Inv.tok(I:Inv X pins σ H s)(t:Nat):Inv X pins σ H { s with toks:=t }:=I.un (h':=s.heap) (t':=t) Un.refl I.hok
theorem Inv.kept{t':Nat}(I:Inv X pins σ H s)(k:∀b u,s.heap.get? b=some u->h'.get? b=some u):Inv X pins σ H { s with heap:=h',toks:=t' }:=I.un (Un.kept k) (I.hok.kept k)
theorem Inv.laid{a:Addr}{o:HO}{t':Nat}(I:Inv X pins σ H s)(k:∀b u,s.heap.get? b=some u->h'.get? b=some u)(hp:s.heap.objs.size<=a)(new:ObjOk X.prog X.w (upd H a o) h' a o):
  Inv X pins σ (upd H a o) { s with heap:=h',toks:=t' }:=I.un (Un.laid k hp (I.hok.fresh hp)) (I.hok.laid k hp new)
theorem Inv.write{x e:Addr}{o:HO}{t':Nat}(I:Inv X pins σ H s)(mu:Mut (H x))(he:e=x\/H e=some (.own x))(k:∀b u,b≠e->s.heap.get? b=some u->h'.get? b=some u)(heo:∃u,h'.get? e=some u)
  (new:ObjOk X.prog X.w (upd H x o) h' x o):Inv X pins σ (upd H x o) { s with heap:=h',toks:=t' }:=I.un (Un.write mu he k heo) (I.hok.write mu he k heo new)
theorem Inv.pins_of{pins':List (Addr×Obj)}(I:Inv X pins σ H s)(h:∀p∈pins',s.heap.get? p.1=some p.2/\H p.1=none/\p.1≠X.env.locals/\p.1∉X.fs/\∀v,p.2.data≠.cell v):Inv X pins' σ H s :=
 ⟨I.ok,I.os,I.bare,I.base,I.loc,I.cell,I.free,I.freeC,fun p hp=>(List.mem_append.mp hp).elim (fun z=>I.pin p (List.mem_append_left _ z)) (h p),I.hok,I.len⟩
theorem Ja{N:List Str}(hN:N.Nodup){i j:Nat}{x:Str}(a:N[i]?=some x)(b:N[j]?=some x):i=j:=by
 obtain⟨h1,e1⟩:=List.getElem?_eq_some_iff.mp a
 obtain⟨h2,e2⟩:=List.getElem?_eq_some_iff.mp b
 exact(List.getElem_inj hN).mp (e1.trans e2.symm)
theorem QbW{M:Model}{A:Around}{E:Value->Shared->Prop}{i:Nat}{x:Str}{v:V}{u:Value}{Q:Unit->Shared->Prop}(I:Inv X pins σ H s)(hN:X.N.Nodup)(hi:X.N[i]?=some x)(hx:Loc X.env.scope x)(r:RelV v u)
  (h:∀s',Inv X pins (σ.set i (some v)) H s'->(∃a,Heap.SameBut a s.heap s'.heap/\(a=X.env.locals\/X.env.cells.lookup x=some a))->Q () s') (hf:X.fn x=true\/X.env.scope.names.lookup x=some .local:=by first | exact .inl rfl | exact .inr rfl | assumption):wpAny M A (storeName X.env x u) Q E s:=by
 obtain⟨m,hn,hl⟩:=id I.loc
 have hcls:(X.env.scope.kind==.class||(X.env.scope.kind==.module&&X.env.locals != X.env.globals))=false:=by rw [I.ok.kind];rfl
 have hiσ:i < σ.length:=by rw [I.len];exact(List.getElem?_eq_some_iff.mp hi).1
 have cne:=I.cne
 have tracked:∀{a:Addr} {h':Heap},(∃o,s.heap.get? a=some o/\H a=none)->Heap.SameBut a s.heap h'->HOk X.prog X.w H h':=fun {a h'} ha hs b ob e=>by
  obtain⟨_,_,hfree⟩:=ha
  refine(I.hok b ob e).stay (fun c w' hc q=>(hs.2 c ?_).trans q) (fun _ q=>q) fun _ _ q=>q
  rintro rfl
  rcases hc with rfl | hc
  ·rw [hfree]at e;cases e
  ·rw [hfree]at hc;cases hc
 rcases hx with hk | hk
 ·refine wpAny_storeName_local hk hn (fun h' hn' hs=>?_) hcls
  obtain⟨oL,_,_,hoL,_⟩:=id hn
  refine h _ ⟨I.ok,I.os,I.bare,⟨fun b o e n hb hx=>?_,fun b o e n hb hx=>?_,I.base.free,fun b o e hx=>?_,I.base.tups,I.base.frzs,I.base.tbls⟩,⟨_,hn',fun j y v' e1 e2 e3=>?_⟩,fun y c e=>?_,I.free,I.freeC,fun p hp=>?_,tracked ⟨oL,hoL,I.free⟩ hs,by simpa using I.len⟩ ⟨_,hs,.inl rfl⟩
  ·exact(hs.2 b (Nat.ne_of_lt (Nat.lt_of_lt_of_le (Heap.lt_size e) I.ok.above))).trans (I.base.keep b o e n hb hx)
  ·obtain⟨sl,e1⟩:=I.base.slot b o e n hb hx
   exact⟨sl,(hs.2 b (Nat.ne_of_lt (Nat.lt_of_lt_of_le (Heap.lt_size e) I.ok.above))).trans e1⟩
  ·obtain⟨o',e1⟩:=I.base.there b o e hx
   exact⟨o',(hs.2 b (Nat.ne_of_lt (Nat.lt_of_lt_of_le (Heap.lt_size e) I.ok.above))).trans e1⟩
  ·by_cases hj:j=i
   ·subst hj
    rw [hi]at e1;cases e1
    rw [List.getElem?_set_self hiσ]at e2
    cases e2
    exact⟨u,r,.inl ⟨hk,by simp⟩⟩
   ·rw [List.getElem?_set_ne (Ne.symm hj)]at e2
    obtain⟨u',r',q⟩:=hl j y v' e1 e2 e3
    refine⟨u',r',?_⟩
    rcases q with⟨k,e⟩ | ⟨k,c,e,z⟩
    ·refine .inl ⟨k,?_⟩
     have:y≠x:=fun e=>hj (Ja hN e1 (e▸hi))
     simp [this,e]
    ·exact .inr ⟨k,c,e,z.sameBut hs (cne y c e)⟩
  ·obtain⟨w',z⟩:=I.cell y c e
   exact⟨w',z.sameBut hs (cne y c e)⟩
  ·obtain⟨e,n,ne,nf,d⟩:=I.pin p hp
   exact⟨(hs.2 p.1 ne).trans e,n,ne,nf,d⟩
 ·have hfn:X.fn x=true:=by
   rcases hf with z | z
   ·exact z
   ·rw [z]at hk;cases hk
  obtain⟨c,hc⟩:=I.ok.has x (.inl hk)
  obtain⟨w',z⟩:=I.cell x c hc
  refine wpAny_storeName_cell I.ok.kind hk hc z (fun h' hc' hs=>?_)
  obtain⟨oc,hoc,hocd⟩:=id z
  refine h { s with heap:=h' } ⟨I.ok,I.os,I.bare,⟨fun b o e n hb hx=>?_,fun b o e n hb hx=>?_,I.base.free,fun b o e hx=>?_,I.base.tups,I.base.frzs,I.base.tbls⟩,⟨m,hn.sameBut hs (Ne.symm (cne x c hc)),fun j y v' e1 e2 e3=>?_⟩,fun y c' e=>?_,I.free,I.freeC,fun p hp=>?_,tracked ⟨oc,hoc,I.freeC x c hc⟩ hs,by simpa using I.len⟩ ⟨c,hs,.inr hc⟩
  ·exact(hs.2 b (Nat.ne_of_lt (Nat.lt_of_lt_of_le (Heap.lt_size e) (I.ok.cab x c hfn hc)))).trans (I.base.keep b o e n hb hx)
  ·obtain⟨sl,e1⟩:=I.base.slot b o e n hb hx
   exact⟨sl,(hs.2 b (Nat.ne_of_lt (Nat.lt_of_lt_of_le (Heap.lt_size e) (I.ok.cab x c hfn hc)))).trans e1⟩
  ·obtain⟨o',e1⟩:=I.base.there b o e hx
   exact⟨o',(hs.2 b (Nat.ne_of_lt (Nat.lt_of_lt_of_le (Heap.lt_size e) (I.ok.cab x c hfn hc)))).trans e1⟩
  ·by_cases hj:j=i
   ·subst hj
    rw [hi]at e1;cases e1
    rw [List.getElem?_set_self hiσ]at e2
    cases e2
    exact⟨u,r,.inr ⟨.inl hk,c,hc,hc'⟩⟩
   ·rw [List.getElem?_set_ne (Ne.symm hj)]at e2
    obtain⟨u',r',q⟩:=hl j y v' e1 e2 e3
    refine⟨u',r',?_⟩
    rcases q with q | ⟨k,c',e,z'⟩
    ·exact .inl q
    ·refine .inr ⟨k,c',e,z'.sameBut hs ?_⟩
     rintro rfl
     exact hj (Ja hN e1 (I.ok.inj _ _ _ e hc▸hi))
  ·by_cases hcc:c'=c
   ·subst hcc;exact⟨_,hc'⟩
   ·obtain⟨w2,z2⟩:=I.cell y c' e
    exact⟨w2,z2.sameBut hs hcc⟩
  ·obtain⟨e,n,ne,nf,d⟩:=I.pin p hp
   refine⟨(hs.2 p.1 ?_).trans e,n,ne,nf,d⟩
   intro q
   rw [q,hoc]at e
   have q':oc=p.2:=Option.some.inj e
   exact d w' (by rw [<-q'];exact hocd)
theorem Y5{M:Model}{A:Around}{E:Value->Shared->Prop}{i:Nat}{x:Str}{v:V}{u:Value}{Q:Unit->Shared->Prop}(I:Inv X pins σ H s)(hN:X.N.Nodup)(hi:X.N[i]?=some x)(hx:Loc X.env.scope x)(r:RelV v u)
  (h:∀s',Inv X pins (σ.set i (some v)) H s'->Q () s') (hf:X.fn x=true\/X.env.scope.names.lookup x=some .local:=by first | exact .inl rfl | exact .inr rfl | assumption):wpAny M A (storeName X.env x u) Q E s :=
 QbW I hN hi hx r (fun s' I' _=>h s' I') hf
theorem Inv.call'{s':Shared}{ch:List Addr}(I:Inv X pins σ H s)(ho:s'.os=s.os)(u:Un (frs X.stack) ch H H' s.heap s'.heap)(hok:HOk X.prog X.w H' s'.heap)(hg:AllBare s'.gens)
  (hch:∀b∈ch,(b∈X.ex\/X.s₀.heap.objs.size<=b)/\b≠X.env.locals/\(∀x c,X.env.cells.lookup x=some c->c≠b)/\∀p∈X.pn++pins,p.1≠b):Inv X pins σ H' s':=by
 obtain⟨h',g',d',t',o'⟩:=s'
 have e:o'=s.os:=ho
 subst e
 exact I.call (g':=g') (t':=t') (d':=d') u hok hg hch
end
noncomputable abbrev XK:=Value->Option Addr->Hp->Prop
noncomputable abbrev St:=List (Option V)
noncomputable abbrev VK:=V->Hp->Prop
noncomputable abbrev TE:=St->Hp->VK->Prop
noncomputable abbrev TT:=St->Hp->(Bool->Hp->Prop)->Prop
noncomputable abbrev TA:=St->Hp->(List V->Hp->Prop)->Prop
structure Ends where
 nx:St->Hp->Prop
 rt:VK
 bk:St->Hp->Prop:=fun _ _=>False
 ct:St->Hp->Prop:=fun _ _=>False
noncomputable abbrev TS:=Ends->St->Hp->Prop
noncomputable def EP(X:Cx)(pins:List (Addr×Obj))(σ:St)(Q:VK)(u:Value)(s':Shared):Prop:=∃v H',Inv X pins σ H' s'/\RelV v u/\Q v H'
noncomputable def TP(X:Cx)(pins:List (Addr×Obj))(σ:St)(Q:Bool->Hp->Prop)(b:Bool)(s':Shared):Prop:=∃H',Inv X pins σ H' s'/\Q b H'
noncomputable def AP(X:Cx)(pins:List (Addr×Obj))(σ:St)(Q:List V->Hp->Prop)(us:List Value)(s':Shared):Prop:=∃vs H',Inv X pins σ H' s'/\Vals vs us/\Q vs H'
noncomputable def SP(X:Cx)(pins:List (Addr×Obj))(D:Ends)(f:Flow)(s':Shared):Prop :=
 match f with
 | .next=>∃σ' H',Inv X pins σ' H' s'/\D.nx σ' H'
 | .brk=>∃σ' H',Inv X pins σ' H' s'/\D.bk σ' H'
 | .cont=>∃σ' H',Inv X pins σ' H' s'/\D.ct σ' H'
 | .ret u=>∃v σ' H',Inv X pins σ' H' s'/\RelV v u/\D.rt v H'
noncomputable def PE(X:Cx)(e:Expr)(t:TE):Prop :=
 ∀(pins:List (Addr×Obj)) (s:Shared) (σ:St) (H:Hp) (Q:VK),Inv X pins σ H s->t σ H Q->wpAny (model X.prog X.w) X.A (eval e X.env) (EP X pins σ Q) X.xe s
noncomputable def PT(X:Cx)(e:Expr)(t:TT):Prop :=
 ∀(pins:List (Addr×Obj)) (s:Shared) (σ:St) (H:Hp) (Q:Bool->Hp->Prop),Inv X pins σ H s->t σ H Q->wpAny (model X.prog X.w) X.A (isTrue e X.env (eval e X.env)) (TP X pins σ Q) X.xe s
noncomputable def PW(X:Cx)(e:Expr)(t:TT):Prop :=
 ∀(whole:Sem Value) (pins:List (Addr×Obj)) (s:Shared) (σ:St) (H:Hp) (Q:Bool->Hp->Prop),Inv X pins σ H s->t σ H Q->wpAny (model X.prog X.w) X.A (isTrue e X.env whole) (TP X pins σ Q) X.xe s
theorem PW.pt{X:Cx}{e:Expr}{t:TT}(h:PW X e t):PT X e t:=h _
noncomputable def PA(X:Cx)(es:List Expr)(t:TA):Prop :=
 ∀(pos:Pos) (pins:List (Addr×Obj)) (s:Shared) (σ:St) (H:Hp) (Q:List V->Hp->Prop),Inv X pins σ H s->t σ H Q->wpAny (model X.prog X.w) X.A (spliced (backTo pos (starEach es X.env))) (AP X pins σ Q) X.xe s
noncomputable def PS(X:Cx)(st:Stmt)(t:TS):Prop :=
 ∀(pins:List (Addr×Obj)) (s:Shared) (σ:St) (H:Hp) (D:Ends),Inv X pins σ H s->t D σ H->wpAny (model X.prog X.w) X.A (exec st X.env) (SP X pins D) X.xe s
noncomputable def PSs(X:Cx)(st:List Stmt)(t:TS):Prop :=
 ∀(pins:List (Addr×Obj)) (s:Shared) (σ:St) (H:Hp) (D:Ends),Inv X pins σ H s->t D σ H->wpAny (model X.prog X.w) X.A (execs st X.env) (SP X pins D) X.xe s
theorem thn{α:Type}{t:Sem α}{Q Q':α->Shared->Prop}{M:Model}{A:Around}{E:Value->Shared->Prop}{s:Shared}(h:wpAny M A t Q E s)(hQ:∀a s,Q a s->Q' a s):wpAny M A t Q' E s:=wpAny_mono h hQ fun _ _ x=>x
end L2
namespace L2
open PySem PySem.Spec PyProof.Rows
section
variable {X:Cx}
noncomputable def Qjj(i:Nat):TE:=fun σ H Q=>∃v,σ[i]?=some (some v)/\Q v H
noncomputable def tC(v:V):TE:=fun _ H Q=>Q v H
theorem Qcm{i:Nat}{x:Str}{pos:Pos}(hN:X.N[i]?=some x)(hv:Vis X.env.scope x)(hd:(x==("__debug__":Str))=false:=by decide) (hcd:(x==("__classdict__":Str))=false:=by decide):PE X (.Name x pos) (Qjj i):=by
 intro pins s σ H Q I h
 obtain⟨v,e,h⟩:=h
 obtain⟨m,hn,hl⟩:=I.loc
 obtain⟨u,r,l⟩:=hl i x v hN e hv
 have fin:EP X pins σ Q u s:=⟨v,H,I,r,h⟩
 rcases l with⟨hk,hm⟩ | ⟨hk,c,hc,hcell⟩
 ·exact wpAny_Name (wpAny_loadName_local I.ok.kind hk hn hm fin) hd
 ·rcases hk with hk | hk
  ·exact wpAny_Name (wpAny_loadName_cell I.ok.kind hk hc hcell fin) hd
  ·exact wpAny_Name (wpAny_loadName_free I.ok.kind hk hc hcell fin hcd) hd
theorem Qco{i j pos}:PE X (.Constant (.int i) j pos) (tC (.int i)):=fun _ _ _ H _ I h=>wpAny_Constant_int ⟨.int i,H,I.tok _,⟨_,rfl⟩,h⟩
theorem Qki{b j pos}:PE X (.Constant (.bool b) j pos) (tC (.bl b)):=fun _ _ _ H _ I h=>Constant_bool ⟨.bl b,H,I,rfl,h⟩
theorem Qfa{j pos}:PE X (.Constant .none j pos) (tC .non):=fun _ _ _ H _ I h=>Constant_none ⟨.non,H,I,rfl,h⟩
theorem Qcn{x j pos}:PE X (.Constant (.str x) j pos) (tC (.str x)):=fun _ _ _ H _ I h=>Calls.Constant_str ⟨.str x,H,I.tok _,⟨_,rfl⟩,h⟩
noncomputable def Gl(X:Cx)(x:Str):Prop:=X.env.kindOf x=some .globalImplicit
theorem Zw{E:Value->Shared->Prop}{pins:List (Addr×Obj)}{s:Shared}{σ:St}{H:Hp}{x:Str}{u:Value}{pos:Pos}{Q:Value->Shared->Prop}(I:Inv X pins σ H s)(hg:Gl X x)(hm:X.mg x=some u)(h:Q u s)
  (hd:(x==("__debug__":Str))=false:=by decide):wpAny (model X.prog X.w) X.A (eval (.Name x pos) X.env) Q E s :=
 Calls.Name_function_global I.ok.kind hg (Calls.loadGlobal_global (by rw [I.ok.glob];exact I.mod.glob.keeps I.bk) hm h) hd
theorem ZX{E:Value->Shared->Prop}{pins:List (Addr×Obj)}{s:Shared}{σ:St}{H:Hp}{x:Str}{u:Value}{pos:Pos}{Q:Value->Shared->Prop}(I:Inv X pins σ H s)(hg:Gl X x)(hm:X.mg x=none)(hv:bootBuiltins x=some u)(h:Q u s)
  (hn:x≠"__name__":=by decide) (hd:(x==("__debug__":Str))=false:=by decide):wpAny (model X.prog X.w) X.A (eval (.Name x pos) X.env) Q E s:=by
 obtain⟨mb,h1,h2⟩:=I.mod.blt
 exact Calls.Name_function_global I.ok.kind hg (Calls.loadGlobal_builtin (by rw [I.ok.glob];exact I.mod.glob.keeps I.bk) hm (by rw [I.ok.blt];exact h1.keeps I.bk) ((h2 x hn).trans hv) h) hd
theorem Qai{x:Str}{v:V}{u:Value}{pos:Pos}(hg:Gl X x)(hm:X.mg x=some u)(r:RelV v u)(hd:(x==("__debug__":Str))=false:=by decide):PE X (.Name x pos) (tC v):=
 fun _ _ _ H _ I h=>Zw I hg hm ⟨v,H,I,r,h⟩ hd
theorem Qgf{x:Str}{v:V}{u:Value}{pos:Pos}(hg:Gl X x)(hm:X.mg x=none)(hv:bootBuiltins x=some u)(r:RelV v u)(hn:x≠"__name__":=by decide) (hd:(x==("__debug__":Str))=false:=by decide):PE X (.Name x pos) (tC v):=
 fun _ _ _ H _ I h=>ZX I hg hm hv ⟨v,H,I,r,h⟩ hn hd
variable {a b:Expr}{ta tb:TE}{pos:Pos}
variable {tA tB':TT}{rest:List Expr}
noncomputable def QlU(t u:TT):TT:=fun σ H Q=>t σ H fun c H1=>if c=true then u σ H1 Q else Q false H1
noncomputable def tOr(t u:TT):TT:=fun σ H Q=>t σ H fun c H1=>if c=true then Q true H1 else u σ H1 Q
noncomputable def QlO(t:TT):TT:=fun σ H Q=>t σ H fun c H1=>Q (!c) H1
theorem QfW(ha:PT X a tA):PW X (.BoolOp .And [a] pos) tA:=by
 intro wh pins s σ H Q I h
 refine isTrue_and (thn (ha pins s σ H Q I h) fun c s1 e=>?_)
 cases c with
 | true=>exact isTrue_and_nil e
 | false=>exact e
theorem QhW(ha:PT X a tA):PW X (.BoolOp .Or [a] pos) tA:=by
 intro wh pins s σ H Q I h
 refine isTrue_or (thn (ha pins s σ H Q I h) fun c s1 e=>?_)
 cases c with
 | false=>exact isTrue_or_nil e
 | true=>exact e
theorem QhX(ha:PT X a tA)(hb:PW X (.BoolOp .And (b::rest) pos) tB'):PW X (.BoolOp .And (a::b::rest) pos) (QlU tA tB'):=by
 intro wh pins s σ H Q I h
 refine isTrue_and (thn (ha pins s σ H _ I h) fun c s1 ⟨H1,I1,q1⟩=>?_)
 cases c with
 | true=>exact hb wh pins s1 σ H1 Q I1 q1
 | false=>exact⟨H1,I1,q1⟩
theorem Qkc(ha:PT X a tA)(hb:PW X (.BoolOp .Or (b::rest) pos) tB'):PW X (.BoolOp .Or (a::b::rest) pos) (tOr tA tB'):=by
 intro wh pins s σ H Q I h
 refine isTrue_or (thn (ha pins s σ H _ I h) fun c s1 ⟨H1,I1,q1⟩=>?_)
 cases c with
 | true=>exact⟨H1,I1,q1⟩
 | false=>exact hb wh pins s1 σ H1 Q I1 q1
theorem QhZ(ha:PT X a tA):PT X (.UnaryOp .Not a pos) (QlO tA):=by
 intro pins s σ H Q I h
 exact isTrue_not (ha pins s σ H (fun c H1=>Q (!c) H1) I h)
noncomputable def QjL(ta tb:TE):TE:=fun σ H Q=>ta σ H fun x H1=>∃c,x=.bl c/\if c=true then tb σ H1 Q else Q (.bl false) H1
noncomputable def QlN(ta tb:TE):TE:=fun σ H Q=>ta σ H fun x H1=>∃c,x=.bl c/\if c=true then Q (.bl true) H1 else tb σ H1 Q
theorem Qe9{op}{t:TE}(h:PE X a t):PE X (.BoolOp op [a] pos) t:=fun pins s σ H Q I hw=>BoolOp_one (h pins s σ H Q I hw)
theorem Qid(ha:PE X a ta)(hb:PE X (.BoolOp .And (b::rest) pos) tb):PE X (.BoolOp .And (a::b::rest) pos) (QjL ta tb):=by
 intro pins s σ H Q I h
 refine BoolOp_and (thn (ha pins s σ H _ I h) fun v s1 ⟨x,H1,I1,r1,q1⟩=>?_)
 obtain⟨c,rfl,q1⟩:=q1
 cases r1
 refine wpAny_truthy_bool ?_
 cases c with
 | true=>exact hb pins s1 σ H1 Q I1 q1
 | false=>exact⟨.bl false,H1,I1,rfl,q1⟩
theorem Qke(ha:PE X a ta)(hb:PE X (.BoolOp .Or (b::rest) pos) tb):PE X (.BoolOp .Or (a::b::rest) pos) (QlN ta tb):=by
 intro pins s σ H Q I h
 refine BoolOp_or (thn (ha pins s σ H _ I h) fun v s1 ⟨x,H1,I1,r1,q1⟩=>?_)
 obtain⟨c,rfl,q1⟩:=q1
 cases r1
 refine wpAny_truthy_bool ?_
 cases c with
 | false=>exact hb pins s1 σ H1 Q I1 q1
 | true=>exact⟨.bl true,H1,I1,rfl,q1⟩
noncomputable def tIf(t:TT)(ta tb:TE):TE:=fun σ H Q=>t σ H fun c H1=>if c=true then ta σ H1 Q else tb σ H1 Q
theorem QaW{c:Expr}(hc:PT X c tA)(ha:PE X a ta)(hb:PE X b tb):PE X (.IfExp c a b pos) (tIf tA ta tb):=by
 intro pins s σ H Q I h
 refine wpAny_IfExp (thn (hc pins s σ H _ I h) fun d s1 ⟨H1,I1,q1⟩=>?_)
 cases d with
 | true=>exact ha pins s1 σ H1 Q I1 q1
 | false=>exact hb pins s1 σ H1 Q I1 q1
end
end L2
namespace L2
open PySem PySem.Spec PyProof.Rows
noncomputable def SqL(K:PySem.W.Frag)(H:Hp)(a:Addr)(xs:List V):Prop :=
 Rd H a (.lst xs) \/
  ∃ (o : Obj) (its : Array Value) (n : Nat), K.lookup a = some o /\ o.cls = .type "list" /\ o.dict = none /\ o.data = .seq its n /\ its.size <= sizeLine /\ Vals xs its.toList
noncomputable def SqT(K:PySem.W.Frag)(H:Hp)(a:Addr)(xs:List V):Prop :=
 Rd H a (.tup xs) \/
  ∃ (o : Obj) (its : Array Value) (n : Nat), K.lookup a = some o /\ o.cls = .type "tuple" /\ o.data = .seq its n /\ its.size <= sizeLine /\ Vals xs its.toList
noncomputable def QmJ:Value->Option V
 | .none=>some .non
 | .bool b=>some (.bl b)
 | .int i _=>some (.int i)
 | .str x _=>some (.str x)
 | .bytes b _=>some (.byt b)
 | .float b _=>some (.flt b)
 | .ref a=>some (.ref a)
 | .type n=>some (.ty n)
 | _=>none
theorem RelV.abs{x:V}{u:Value}(r:RelV x u):QmJ u=some x:=by
 cases x with
 | non=>cases r;rfl
 | bl _=>cases r;rfl
 | int _=>obtain⟨t,rfl⟩:=r;rfl
 | str _=>obtain⟨t,rfl⟩:=r;rfl
 | byt _=>obtain⟨t,rfl⟩:=r;rfl
 | flt _=>obtain⟨t,rfl⟩:=r;rfl
 | ref _=>cases r;rfl
 | ty _=>cases r;rfl
theorem RelV.inj{x y:V}{u:Value}(r:RelV x u)(q:RelV y u):x=y:=Option.some.inj (r.abs.symm.trans q.abs)
theorem Vals.inj:∀{xs ys:List V} {us:List Value},Vals xs us->Vals ys us->xs=ys
 | _,_,_,.nil,.nil=>rfl
 | _,_,_,.cons r t,.cons r' t'=>by rw [r.inj r',Vals.inj t t']
section
variable {X:Cx}{pins:List (Addr×Obj)}{σ:St}{H:Hp}{s:Shared}{a:Addr}{xs ys:List V}
theorem SqL.of{K:PySem.W.Frag}(h:H a=some (.lst xs)):SqL K H a xs:=.inl (.inl h)
theorem SqT.of{K:PySem.W.Frag}(h:H a=some (.tup xs)):SqT K H a xs:=.inl (.inl h)
theorem Inv.list(I:Inv X pins σ H s)(h:SqL X.K H a xs):∃its:List Value,Vals xs its/\PlainL s.heap a its.toArray/\xs.length<=sizeLine:=by
 rcases h with h | ⟨o,its,n,hk,hc,hd,hs,hz,r⟩
 ·obtain⟨z,its,n,r,e⟩:=h.ok I.hok
  exact⟨its,r,⟨_,n,e,rfl,rfl,rfl⟩,z⟩
 ·refine⟨its.toList,r,⟨o,n,I.kIn a o hk,hc,hd,by simpa using hs⟩,?_⟩
  have e:=r.length
  simp only [Array.length_toList]at e
  lia
theorem Inv.tuple(I:Inv X pins σ H s)(h:SqT X.K H a xs):∃its:List Value,Vals xs its/\IsTup s.heap a its.toArray/\xs.length<=sizeLine:=by
 rcases h with h | ⟨o,its,n,hk,hc,hs,hz,r⟩
 ·obtain⟨z,its,r,p⟩:=h.ok I.hok
  exact⟨its,r,p,z⟩
 ·refine⟨its.toList,r,⟨o,I.kIn a o hk,hc,n,by simpa using hs⟩,?_⟩
  have e:=r.length
  simp only [Array.length_toList]at e
  lia
theorem Inv.list_inj(I:Inv X pins σ H s)(h:SqL X.K H a xs)(h':SqL X.K H a ys):xs=ys:=by
 obtain⟨its,r,⟨o,n,e,_,_,d⟩,_⟩:=I.list h
 obtain⟨its',r',⟨o',n',e',_,_,d'⟩,_⟩:=I.list h'
 rw [e]at e';cases e'
 rw [d]at d'
 injection d' with d1 _
 have:its=its':=by simpa using congrArg Array.toList d1
 subst this
 exact r.inj r'
theorem Inv.tuple_inj(I:Inv X pins σ H s)(h:SqT X.K H a xs)(h':SqT X.K H a ys):xs=ys:=by
 obtain⟨its,r,⟨o,e,_,n,d⟩,_⟩:=I.tuple h
 obtain⟨its',r',⟨o',e',_,n',d'⟩,_⟩:=I.tuple h'
 rw [e]at e';cases e'
 rw [d]at d'
 injection d' with d1 _
 have:its=its':=by simpa using congrArg Array.toList d1
 subst this
 exact r.inj r'
end
noncomputable abbrev Cx.wish(X:Cx)(E:Value->Shared->Prop):Cx:={ X with xe:=E }
noncomputable abbrev Cx.nox(X:Cx):Cx:=X.wish fun _ _=>False
theorem Cx.Ok.wish{X:Cx}(ok:X.Ok)(E:Value->Shared->Prop):(X.wish E).Ok :=
 ⟨ok.mod,ok.kind,ok.glob,ok.blt,ok.above,ok.inj,ok.has,ok.cab,ok.hd,ok.frames,ok.stk,ok.exf,ok.bs,ok.bsz,ok.noex,ok.exfs,ok.funs,ok.frf⟩
theorem Cx.Ok.unwish{X:Cx}{E:Value->Shared->Prop}(ok:(X.wish E).Ok):X.Ok :=
 ⟨ok.mod,ok.kind,ok.glob,ok.blt,ok.above,ok.inj,ok.has,ok.cab,ok.hd,ok.frames,ok.stk,ok.exf,ok.bs,ok.bsz,ok.noex,ok.exfs,ok.funs,ok.frf⟩
section
variable {X:Cx}{pins:List (Addr×Obj)}{σ:St}{H:Hp}{s:Shared}{E:Value->Shared->Prop}
theorem Inv.wish(I:Inv X pins σ H s)(E:Value->Shared->Prop):Inv (X.wish E) pins σ H s:=⟨I.ok.wish E,I.os,I.bare,I.base,I.loc,I.cell,I.free,I.freeC,I.pin,I.hok,I.len⟩
theorem Inv.unwish(I:Inv (X.wish E) pins σ H s):Inv X pins σ H s:=⟨I.ok.unwish,I.os,I.bare,I.base,I.loc,I.cell,I.free,I.freeC,I.pin,I.hok,I.len⟩
theorem SP.unwish{D:Ends}{f:Flow}{s':Shared}(h:SP (X.wish E) pins D f s'):SP X pins D f s':=by
 cases f with
 | next=>obtain⟨σ',H',I,q⟩:=h;exact⟨σ',H',I.unwish,q⟩
 | brk=>obtain⟨σ',H',I,q⟩:=h;exact⟨σ',H',I.unwish,q⟩
 | cont=>obtain⟨σ',H',I,q⟩:=h;exact⟨σ',H',I.unwish,q⟩
 | ret u=>obtain⟨v,σ',H',I,r,q⟩:=h;exact⟨v,σ',H',I.unwish,r,q⟩
theorem PT.nox{e:Expr}{t:TT}(h:PT X.nox e t):PT X e t:=fun pins s σ H Q I hw =>
 wpAny_mono (h pins s σ H Q (I.wish _) hw) (fun _ _ ⟨H',I',q⟩=>⟨H',I'.unwish,q⟩) fun _ _ z=>False.elim z
theorem PSs.nox{st:List Stmt}{t:TS}(h:PSs X.nox st t):PSs X st t:=fun pins s σ H D I hw =>
 wpAny_mono (h pins s σ H D (I.wish _) hw) (fun _ _ q=>q.unwish) fun _ _ z=>False.elim z
end
section
variable {X:Cx}{st:Stmt}{rest:List Stmt}{t u:TS}{e:Expr}{te:TE}{pos:Pos}
noncomputable def QfH:TS:=fun D σ H=>D.nx σ H
noncomputable def QlL(t u:TS):TS:=fun D σ H=>t { D with nx:=u D } σ H
theorem Qcd:PSs X [] QfH:=fun _ _ σ H _ I h=>wpAny_execs_nil ⟨σ,H,I,h⟩
theorem ZT(h1:PS X st t)(h2:PSs X rest u):PSs X (st::rest) (QlL t u):=by
 intro pins s σ H D I h
 refine wpAny_execs_cons (thn (h1 pins s σ H { D with nx:=u D } I h) fun f s1 q=>?_)
 cases f with
 | next =>
  obtain⟨σ',H',I',q⟩:=q
  exact h2 pins s1 σ' H' D I' q
 | ret v=>exact q
 | brk=>exact q
 | cont=>exact q
theorem Qcc(h1:PS X st t):PSs X [st] t:=by
 intro pins s σ H D I h
 refine wpAny_execs_cons (thn (h1 pins s σ H D I h) fun f s1 q=>?_)
 cases f with
 | next=>exact wpAny_execs_nil q
 | ret v=>exact q
 | brk=>exact q
 | cont=>exact q
noncomputable def Qhw:TS:=fun D σ H=>D.bk σ H
noncomputable def QjK:TS:=fun D σ H=>D.ct σ H
theorem Qf0:PS X (.Pass pos) QfH:=fun _ _ σ H _ I h=>wpAny_Pass ⟨σ,H,I,h⟩
theorem Qec:PS X (.Break pos) Qhw:=fun _ _ σ H _ I h=>wpAny_Break ⟨σ,H,I,h⟩
theorem Qaf:PS X (.Continue pos) QjK:=fun _ _ σ H _ I h=>wpAny_Continue ⟨σ,H,I,h⟩
theorem Inv.quiet{pins:List (Addr×Obj)}{σ:St}{H:Hp}{s:Shared}(I:Inv X pins σ H s):interactive X.env=false:=by simp [interactive,I.ok.kind]
theorem Qh1{x j pos pos'}:PS X (.Expr (.Constant (.str x) j pos) pos') QfH:=fun _ s σ H _ I h=>wpAny_Expr (Calls.Constant_str (show SP X _ _ .next { s with toks:=s.toks+1 }from⟨σ,H,I.tok _,h⟩)) I.quiet
noncomputable def QjI(te:TE):TS:=fun D σ H=>te σ H fun _ H1=>D.nx σ H1
theorem Y8(he:PE X e te)(hs:swapsWith e none pos.line X.env=pure false:=by rfl):PS X (.Expr e pos) (QjI te):=by
 intro pins s σ H D I h
 exact wpAny_Expr_any (thn (he pins s σ H _ I h) fun v s1 ⟨x,H1,I1,r1,q1⟩=>⟨σ,H1,I1,q1⟩) I.quiet hs
noncomputable def QlM(te:TE):TS:=fun D σ H=>te σ H D.rt
theorem Qe7(he:PE X e te):PS X (.Return (some e) pos) (QlM te):=by
 intro pins s σ H D I h
 exact wpAny_Return_some (thn (he pins s σ H _ I h) fun v s1 ⟨x,H1,I1,r1,q1⟩=>⟨x,σ,H1,I1,r1,q1⟩)
noncomputable def QjF:TS:=fun D _ H=>D.rt .non H
theorem QfZ:PS X (.Return none pos) QjF:=fun _ _ σ H _ I h=>wpAny_Return_none ⟨.non,σ,H,I,rfl,h⟩
noncomputable def QlQ(c:TT)(t u:TS):TS:=fun D σ H=>c σ H fun b H1=>if b=true then t D σ H1 else u D σ H1
theorem Qh0{c:Expr}{a b:List Stmt}{tc:TT}(hc:PT X c tc)(ha:PSs X a t)(hb:PSs X b u):PS X (.If c a b pos) (QlQ tc t u):=by
 intro pins s σ H D I h
 refine wpAny_If (thn (hc pins s σ H _ I h) fun d s1 ⟨H1,I1,q1⟩=>?_)
 cases d with
 | true=>exact ha pins s1 σ H1 D I1 q1
 | false=>exact hb pins s1 σ H1 D I1 q1
end
noncomputable abbrev TG:=V->St->Hp->(St->Hp->Prop)->Prop
noncomputable abbrev TGs:=List V->St->Hp->(St->Hp->Prop)->Prop
noncomputable def PG(X:Cx)(target:Expr)(t:TG):Prop :=
 ∀(pins:List (Addr×Obj)) (s:Shared) (σ:St) (H:Hp) (v:V) (u:Value) (Q:St->Hp->Prop),Inv X pins σ H s->RelV v u->t v σ H Q ->
  wpAny (model X.prog X.w) X.A (assign target X.env u) (fun _ s'=>∃σ' H',Inv X pins σ' H' s'/\Q σ' H') X.xe s
noncomputable def PGs(X:Cx)(ts:List Expr)(t:TGs):Prop :=
 ∀(pins:List (Addr×Obj)) (s:Shared) (σ:St) (H:Hp) (vs:List V) (us:List Value) (Q:St->Hp->Prop),Inv X pins σ H s->Vals vs us->t vs σ H Q ->
  wpAny (model X.prog X.w) X.A (assignInOrder ((assignEach ts X.env).map (·.2)) us) (fun _ s'=>∃σ' H',Inv X pins σ' H' s'/\Q σ' H') X.xe s
noncomputable abbrev QmR:=V->V->V->Hp->(Hp->Prop)->Prop
noncomputable abbrev TIp:=V->V->Hp->VK->Prop
section
variable {X:Cx}{pos:Pos}
noncomputable def Qat(i:Nat):TG:=fun v σ H Q=>Q (σ.set i (some v)) H
theorem Yu{i:Nat}{x:Str}(hN:X.N.Nodup)(hi:X.N[i]?=some x)(hx:Loc X.env.scope x)(hf:X.fn x=true\/X.env.scope.names.lookup x=some .local:=by first | exact .inl rfl | exact .inr rfl | assumption):PG X (.Name x pos) (Qat i):=by
 intro pins s σ H v u Q I r h
 exact wpAny_assign_Name (Y5 I hN hi hx r (fun s' I'=>⟨_,H,I',h⟩) hf)
noncomputable def Qlx:TGs:=fun vs σ H Q=>vs=[]/\Q σ H
noncomputable def QgI(t:TG)(u:TGs):TGs:=fun vs σ H Q=>∃v r,vs=v::r/\t v σ H fun σ' H'=>u r σ' H' Q
theorem Qah:PGs X [] Qlx:=by
 intro pins s σ H vs us Q I r h
 obtain⟨e,h⟩:=h
 subst e
 cases r
 exact assignInOrder_nil ⟨σ,H,I,h⟩
theorem ZN{e:Expr}{es:List Expr}{t:TG}{u:TGs}(h1:PG X e t)(h2:PGs X es u)
  (hs:(assignEach (e::es) X.env).map (·.2)=assign e X.env::(assignEach es X.env).map (·.2):=by rfl):PGs X (e::es) (QgI t u):=by
 intro pins s σ H vs us Q I r h
 obtain⟨v,vr,e1,h⟩:=h
 subst e1
 cases r with
 | cons r rr =>
  rw [hs]
  refine assignInOrder_cons (thn (h1 pins s σ H _ _ _ I r h) fun _ s1 ⟨σ1,H1,I1,q1⟩=>?_)
  exact h2 pins s1 σ1 H1 _ _ Q I1 rr q1
noncomputable def Qlw(K:PySem.W.Frag)(n:Nat)(t:TGs):TG:=fun v σ H Q=>∃a xs,v=.ref a/\SqT K H a xs/\xs.length=n/\t xs σ H Q
theorem Qcl{es:List Expr}{k:Nat}{t:TGs}{n:Nat}(hc:X.calm=true)(h:PGs X es t)
  (hn:(assignEach es X.env).length=n:=by rfl) (hst:(assignEach es X.env).findIdx? (·.1)=none:=by rfl):PG X (.Tuple es k pos) (Qlw X.K n t):=by
 intro pins s σ H v u Q I r hw
 obtain⟨a,xs,e1,hq,hl,hw⟩:=hw
 subst e1
 cases r
 obtain⟨its,rv,ht,hz⟩:=I.tuple hq
 refine assign_Tuple_tuple (I.ok.hd hc) ht (by simp [hn,<-hl,rv.length]) hst fun h' hx=>?_
 have I1:Inv X pins σ H { s with heap:=h' }:=I.kept (t':=s.toks) fun b o e=>hx b o (Nat.ne_of_lt (Heap.lt_size e)) e
 exact h pins _ σ H xs _ Q I1 (by simpa using rv) hw
noncomputable def Qk6(te:TE)(g:TG):TS:=fun D σ H=>te σ H fun x H1=>g x σ H1 D.nx
theorem Qh2{tg e:Expr}{te:TE}{g:TG}(he:PE X e te)(hg:PG X tg g)(hs:swapsWithSole [tg] e pos.line X.env=pure false:=by rfl)(hw:swappedStores [tg] e X.env=pure none:=by rfl)
  (h1:(assignEach [tg] X.env).map (·.2)=[assign tg X.env]:=by rfl):PS X (.Assign [tg] e pos) (Qk6 te g):=by
 intro pins s σ H D I h
 refine wpAny_Assign_stores (thn (he pins s σ H _ I h) fun v s1 ⟨x,H1,I1,r1,q1⟩=>?_) hs hw
 rw [h1]
 exact thn (hg pins s1 σ H1 x v _ I1 r1 q1) fun _ s2 q=>q
theorem YL{i:Nat}{x:Str}{e:Expr}{te:TE}{pos':Pos}(hN:X.N.Nodup)(hi:X.N[i]?=some x)(hx:Loc X.env.scope x)(he:PE X e te)(hs:swapsWith e (some (.Name x pos')) pos.line X.env=pure false:=by rfl)(hf:X.fn x=true\/X.env.scope.names.lookup x=some .local:=by first | exact .inl rfl | exact .inr rfl | assumption):
  PS X (.Assign [.Name x pos'] e pos) (Qk6 te (Qat i)):=by
 intro pins s σ H D I h
 refine wpAny_Assign_Name (thn (he pins s σ H _ I h) fun v s1 ⟨y,H1,I1,r1,q1⟩=>?_) hs
 exact Y5 I1 hN hi hx r1 (fun s2 I2=>⟨_,H1,I2,q1⟩) hf
end
section
variable {X:Cx}{pos:Pos}
end
structure It where
 go:Nat->Hp->Prop
 yld:Nat->Hp->V->Hp->Prop
 stop:Nat->Hp->Prop
noncomputable def QaH(X:Cx)(pins:List (Addr×Obj))(H:Hp)(b:Addr):Prop :=
 H b=none/\b≠X.env.locals/\b∉X.fs/\(b∈X.ex\/X.s₀.heap.objs.size<=b)/\(∀x c,X.env.cells.lookup x=some c->c≠b)/\∀p∈X.pn++pins,p.1≠b
theorem Inv.fpOk{X:Cx}{pins:List (Addr×Obj)}{σ:St}{H H':Hp}{s:Shared}{b:Addr}(I:Inv X pins σ H s)(hb:s.heap.objs.size<=b)(hn:H' b=none):QaH X pins H' b:=by
 refine⟨hn,Nat.ne_of_gt (Nat.lt_of_lt_of_le I.lt hb),I.nofs hb,.inr (Nat.le_trans I.sz hb),fun x c e z=>?_,fun p hp z=>?_⟩
 ·obtain⟨v,q⟩:=I.cell x c e
  exact absurd (Nat.lt_of_lt_of_le q.lt (by rw [z];exact hb)) (Nat.lt_irrefl _)
 ·exact absurd (Nat.lt_of_lt_of_le (Heap.lt_size (I.pin p hp).1) (by rw [z];exact hb)) (Nat.lt_irrefl _)
structure Turn(P:Program)(w:World)(K:PySem.W.Frag)(tg:Expr)(J:It)(fp:List Addr)(it:Addr)(tn:Nat->Heap->Prop):Prop where
 mem:it∈fp
 obj:∀i h,tn i h->∀b∈fp,∃o,h.get? b=some o/\∀v,o.data≠.cell v
 keep:∀i h h',tn i h->(∀b∈fp,∀o,h.get? b=some o->h'.get? b=some o)->tn i h'
 item:∀(X:Cx),X.prog=P->X.w=w->X.K=K->X.calm=true->∀(i:Nat) (pins:List (Addr×Obj)) (s:Shared) (σ:St) (H:Hp) (E:Value->Shared->Prop),Inv X pins σ H s->(∀b∈fp,QaH X pins H b)->tn i s.heap->J.go i H ->
  wpAny (model P w) X.A (pyNext (.ref it)) (fun r s1=>∃u,r=some u /\
   wpAny (model P w) X.A (letOwnedTupleGo tg (.ref it) u) (fun _ s2=>∃x H',Inv X pins σ H' s2/\RelV x u/\J.yld i H x H'/\tn (i+1) s2.heap/\∀b∈fp,H' b=none) E s1) E s
 done:∀(X:Cx),X.prog=P->X.w=w->X.K=K->X.calm=true->∀(i:Nat) (pins:List (Addr×Obj)) (s:Shared) (σ:St) (H:Hp) (E:Value->Shared->Prop),Inv X pins σ H s->(∀b∈fp,QaH X pins H b)->tn i s.heap->J.stop i H ->
  wpAny (model P w) X.A (pyNext (.ref it)) (fun r s1=>r=none/\Inv X pins σ H s1) E s
 self:∀(A:Around) (i:Nat) (s:Shared) (Q:Value->Shared->Prop) (E:Value->Shared->Prop),tn i s.heap->Q (.ref it) s->wpAny (model P w) A (pyIter (.ref it)) Q E s
noncomputable abbrev TI:=St->Hp->(It->Hp->Prop)->Prop
noncomputable def PIE(X:Cx)(pins:List (Addr×Obj))(σ:St)(tg:Expr)(R:It->Hp->Prop)(itv:Value)(s2:Shared):Prop :=
 ∃(it:Addr) (fp:List Addr) (tn:Nat->Heap->Prop) (J:It) (H':Hp),itv=.ref it/\Inv X pins σ H' s2/\Turn X.prog X.w X.K tg J fp it tn/\tn 0 s2.heap/\(∀b∈fp,QaH X pins H' b)/\R J H'
noncomputable def PI(X:Cx)(tg iter:Expr)(wi:TI):Prop :=
 ∀(pins:List (Addr×Obj)) (s:Shared) (σ:St) (H:Hp) (R:It->Hp->Prop),Inv X pins σ H s->wi σ H R ->
  wpAny (model X.prog X.w) X.A (eval iter X.env) (fun v s1=>wpAny (model X.prog X.w) X.A (pyIter v) (PIE X pins σ tg R) X.xe s1) X.xe s
theorem Qas{M:Model}{A:Around}{E:Value->Shared->Prop}{s:Shared}{tg:Expr}{it:Addr}{u:Value}{o:Obj}{n:String}{vs:Array Value}{Q:Unit->Shared->Prop}(ho:s.heap.get? it=some o)(hc:o.cls=.type n)(hd:o.data=.fields vs)
  (hn:["enumerate","zip","dict_itemiterator","dict_reverseitemiterator","odict_iterator","itertools.zip_longest","itertools.pairwise"].contains n=false) (hQ:Q () s):wpAny M A (letOwnedTupleGo tg (.ref it) u) Q E s:=by
 unfold letOwnedTupleGo
 cases tg<;>first
  | exact wpAny_pure hQ
  | (cases u<;>first
    | exact wpAny_pure hQ
    | (refine wpAny_bind (wpAny_load ho ?_)
       rw [hc,hd]
       show wpAny M A (if(["enumerate","zip","dict_itemiterator","dict_reverseitemiterator","odict_iterator","itertools.zip_longest","itertools.pairwise"].contains n&&vs[0]?==some (rawInt _))=true then _ else _) Q E s
       rw [if_neg (by intro h;rw [hn,Bool.false_and]at h;cases h)]
       exact wpAny_pure hQ))
noncomputable def Itl(K:PySem.W.Frag)(a:Addr):It :=
 ⟨fun i H=>∃xs x,SqL K H a xs/\xs[i]?=some x,fun i H x H'=>H'=H/\∀xs,SqL K H a xs->xs[i]?=some x,fun i H=>∃xs,SqL K H a xs/\xs.length<=i⟩
noncomputable def Itt(K:PySem.W.Frag)(a:Addr):It :=
 ⟨fun i H=>∃xs x,SqT K H a xs/\xs[i]?=some x,fun i H x H'=>H'=H/\∀xs,SqT K H a xs->xs[i]?=some x,fun i H=>∃xs,SqT K H a xs/\xs.length<=i⟩
noncomputable def Itr(lo:Int)(n:Nat):It:=⟨fun i _=>i<n,fun i H x H'=>H'=H/\x=.int (lo+i),fun i _=>n<=i⟩
theorem QbQ{P:Program}{w:World}{K:PySem.W.Frag}{tg:Expr}(a it:Addr):Turn P w K tg (Itl K a) [it] it (fun i h=>h.IsListIter it a i) where
 mem:=by simp
 obj:=fun i h st b hb=>by
  have e:b=it:=by simpa using hb
  subst e
  obtain⟨o,e,c,d⟩:=st
  exact⟨o,e,fun v z=>by rw [d]at z;cases z⟩
 keep:=fun i h h' st k=>st.at fun o e=>k it (by simp) o e
 item:=by
  intro X hP hw hK hc i pins s σ H E I hf st hg
  subst hP hw hK
  obtain⟨xs,x,hq,hx⟩:=hg
  obtain⟨its,rv,p,hz⟩:=I.list hq
  obtain⟨u,hu,ru⟩:=rv.get hx
  obtain⟨f0,f1,f2,f3,f4,f5⟩:=hf it (by simp)
  refine wpAny_pyNext_list_item st p.isList (x:=u) (by simpa using hu) fun h' st' sb=>?_
  have I1:Inv X pins σ H { s with heap:=h' }:=I.turned (t':=s.toks) (fun b o hb e=>(sb.2 b hb).trans e) f0 f1 f3 f4 f5
  obtain⟨o,e,c,d⟩:=id st'
  exact⟨u,rfl,Qas (s:={ s with heap:=h' }) e c d (by decide) ⟨x,H,I1,ru,⟨rfl,fun ys hy=>by rw [I.list_inj hy hq];exact hx⟩,st',fun b hb=>(hf b hb).1⟩⟩
 done:=by
  intro X hP hw hK hc i pins s σ H E I hf st hg
  subst hP hw hK
  obtain⟨xs,hq,hx⟩:=hg
  obtain⟨its,rv,p,hz⟩:=I.list hq
  obtain⟨f0,f1,f2,f3,f4,f5⟩:=hf it (by simp)
  have hl:=rv.length
  exact wpAny_pyNext_list_end (I.ok.hd hc) st p.isList (by simp;lia) fun h' eb=>⟨rfl,I.turned (t':=s.toks) (fun b o hb e=>eb b o hb e) f0 f1 f3 f4 f5⟩
 self:=fun _ _ _ _ _ st h=>wpAny_pyIter_listiter st h
theorem Qbj{P:Program}{w:World}{K:PySem.W.Frag}{tg:Expr}(a it:Addr):Turn P w K tg (Itt K a) [it] it (fun i h=>h.IsTupleIter it a i) where
 mem:=by simp
 obj:=fun i h st b hb=>by
  have e:b=it:=by simpa using hb
  subst e
  obtain⟨o,e,c,d⟩:=st
  exact⟨o,e,fun v z=>by rw [d]at z;cases z⟩
 keep:=fun i h h' st k=>st.at fun o e=>k it (by simp) o e
 item:=by
  intro X hP hw hK hc i pins s σ H E I hf st hg
  subst hP hw hK
  obtain⟨xs,x,hq,hx⟩:=hg
  obtain⟨its,rv,p,hz⟩:=I.tuple hq
  obtain⟨u,hu,ru⟩:=rv.get hx
  obtain⟨f0,f1,f2,f3,f4,f5⟩:=hf it (by simp)
  refine wpAny_pyNext_tuple_item st (show s.heap.IsTuple a its.toArray from p) (x:=u) (by simpa using hu) fun h' st' sb=>?_
  have I1:Inv X pins σ H { s with heap:=h' }:=I.turned (t':=s.toks) (fun b o hb e=>(sb.2 b hb).trans e) f0 f1 f3 f4 f5
  obtain⟨o,e,c,d⟩:=id st'
  exact⟨u,rfl,Qas (s:={ s with heap:=h' }) e c d (by decide) ⟨x,H,I1,ru,⟨rfl,fun ys hy=>by rw [I.tuple_inj hy hq];exact hx⟩,st',fun b hb=>(hf b hb).1⟩⟩
 done:=by
  intro X hP hw hK hc i pins s σ H E I hf st hg
  subst hP hw hK
  obtain⟨xs,hq,hx⟩:=hg
  obtain⟨its,rv,p,hz⟩:=I.tuple hq
  obtain⟨f0,f1,f2,f3,f4,f5⟩:=hf it (by simp)
  have hl:=rv.length
  exact wpAny_pyNext_tuple_end (I.ok.hd hc) st (show s.heap.IsTuple a its.toArray from p) (by simp;lia) fun h' eb=>⟨rfl,I.turned (t':=s.toks) (fun b o hb e=>eb b o hb e) f0 f1 f3 f4 f5⟩
 self:=fun _ _ _ _ _ st h=>wpAny_pyIter_tupleiter st h
theorem Qbk{P:Program}{w:World}{K:PySem.W.Frag}{tg:Expr}(it:Addr)(lo:Int)(n:Nat):Turn P w K tg (Itr lo n) [it] it (fun i h=>IsRangeIter h it (lo+(i:Nat)*1) ((n:Int) - (i:Nat)) 1) where
 mem:=by simp
 obj:=fun i h st b hb=>by
  have e:b=it:=by simpa using hb
  subst e
  exact⟨_,st,fun v z=>by
   have z':Data.fields _=Data.cell v:=z
   cases z'⟩
 keep:=fun i h h' st k=>k it (by simp) _ st
 item:=by
  intro X hP hw hK hc i pins s σ H E I hf st hg
  subst hP hw hK
  obtain⟨f0,f1,f2,f3,f4,f5⟩:=hf it (by simp)
  have W:=Walks.range (prog:=X.prog) (w:=X.w) (I.ok.hd hc) it lo 1 n
  refine W.item i s _ _ hg st fun v h' tk hv st' kk=>?_
  obtain⟨t,rfl⟩:=hv
  have I1:Inv X pins σ H { s with heap:=h',toks:=tk }:=I.turned (fun b o hb e=>kk b o (by simpa using hb) e) f0 f1 f3 f4 f5
  refine⟨_,rfl,Qas (s:={ s with heap:=h',toks:=tk }) (n:="range_iterator") st' rfl rfl (by decide) ⟨.int (lo+i),H,I1,⟨t,?_⟩,⟨rfl,rfl⟩,st',fun b hb=>(hf b hb).1⟩⟩
  rw [Int.mul_one]
 done:=by
  intro X hP hw hK hc i pins s σ H E I hf st hg
  subst hP hw hK
  obtain⟨f0,f1,f2,f3,f4,f5⟩:=hf it (by simp)
  exact wpAny_pyNext_range_end (I.ok.hd hc) st (by have:n<=i:=hg;lia) fun h' eb=>⟨rfl,I.turned (t':=s.toks) (fun b o hb e=>eb b o hb e) f0 f1 f3 f4 f5⟩
 self:=fun _ _ _ _ _ st h=>wpAny_pyIter_rangeiter st h
end L2
namespace L2
open PySem PySem.Spec PyProof.Rows
section
variable {X:Cx}{tg:Expr}
noncomputable def QkA(K:PySem.W.Frag)(tl:TE):TI:=fun σ H R=>tl σ H fun x H1=>∃a,x=.ref a/\(∃xs,SqL K H1 a xs)/\R (Itl K a) H1
noncomputable def Qmc(K:PySem.W.Frag)(tl:TE):TI:=fun σ H R=>tl σ H fun x H1=>∃a,x=.ref a/\(∃xs,SqT K H1 a xs)/\R (Itt K a) H1
theorem Qf9{l:Expr}{tl:TE}(hl:PE X l tl):PI X tg l (QkA X.K tl):=by
 intro pins s σ H R I h
 refine thn (hl pins s σ H _ I h) fun v s1 ⟨x,H1,I1,r1,q1⟩=>?_
 obtain⟨a,e,⟨xs,hq⟩,q⟩:=q1
 subst e
 cases r1
 obtain⟨its,rv,p,hz⟩:=I1.list hq
 refine wpAny_pyIter_list p.isList ?_
 refine⟨s1.heap.objs.size,[s1.heap.objs.size],_,_,H1,rfl,I1.kept (t':=s1.toks) fun b o e=>Heap.get?_push_of_some _ e,QbQ a _,⟨_,Heap.get?_push_size _ rfl,rfl,rfl⟩,fun b hb=>?_,q⟩
 have e:b=s1.heap.objs.size:=by simpa using hb
 subst e
 exact I1.fpOk (Nat.le_refl _) (I1.hok.fresh (Nat.le_refl _))
theorem Qh3{l:Expr}{tl:TE}(hl:PE X l tl):PI X tg l (Qmc X.K tl):=by
 intro pins s σ H R I h
 refine thn (hl pins s σ H _ I h) fun v s1 ⟨x,H1,I1,r1,q1⟩=>?_
 obtain⟨a,e,⟨xs,hq⟩,q⟩:=q1
 subst e
 cases r1
 obtain⟨its,rv,p,hz⟩:=I1.tuple hq
 refine wpAny_pyIter_tuple (show s1.heap.IsTuple a its.toArray from p) ?_
 refine⟨s1.heap.objs.size,[s1.heap.objs.size],_,_,H1,rfl,I1.kept (t':=s1.toks) fun b o e=>Heap.get?_push_of_some _ e,Qbj a _,⟨_,Heap.get?_push_size _ rfl,rfl,rfl⟩,fun b hb=>?_,q⟩
 have e:b=s1.heap.objs.size:=by simpa using hb
 subst e
 exact I1.fpOk (Nat.le_refl _) (I1.hok.fresh (Nat.le_refl _))
theorem QaP{pins:List (Addr×Obj)}{σ:St}{H:Hp}{s:Shared}{R:It->Hp->Prop}{E:Value->Shared->Prop}{lo hi:Int}{t u v:Tok}{tk:Nat}(I:Inv X pins σ H s)(h1:-(2 ^ 62)<=lo)(h2:lo<2 ^ 62)(h3:-(2 ^ 62)<=hi)(h4:hi<2 ^ 62)
  (q:R (Itr lo (hi-lo).toNat) H):wpAny (model X.prog X.w) X.A (pyIter (.ref s.heap.objs.size)) (PIE X pins σ tg R) E { s with heap:=s.heap.push { cls:=.type "range",data:=.fields #[.int lo t,.int hi u,.int 1 v] },toks:=tk }:=by
 refine wpAny_pyIter_range (IsRange.new ..) (small_one h1 h2 h3 h4) ?_
 have I1:Inv X pins σ H { s with heap:=s.heap.push { cls:=.type "range",data:=.fields #[.int lo t,.int hi u,.int 1 v] },toks:=tk }:=I.kept fun b o e=>Heap.get?_push_of_some _ e
 refine⟨(s.heap.push { cls:=.type "range",data:=.fields #[.int lo t,.int hi u,.int 1 v] }).objs.size,[(s.heap.push { cls:=.type "range",data:=.fields #[.int lo t,.int hi u,.int 1 v] }).objs.size],_,_,H,rfl,
  I1.kept (t':=tk) fun b o e=>Heap.get?_push_of_some _ e,Qbk _ lo (hi-lo).toNat,?_,fun b hb=>?_,q⟩
 ·have e1:lo+((0:Nat):Int)*1=lo:=by simp
  have e2:(((hi-lo).toNat:Nat):Int) - ((0:Nat):Int)=Builtin.Range.rangeSize lo hi 1:=by rw [rangeSize_one];split<;>lia
  show IsRangeIter _ _ (lo+((0:Nat):Int)*1) ((((hi-lo).toNat:Nat):Int) - ((0:Nat):Int)) 1
  rw [e1,e2]
  exact Heap.get?_push_size _ rfl
 ·have e:b=(s.heap.push { cls:=.type "range",data:=.fields #[.int lo t,.int hi u,.int 1 v] }).objs.size:=by simpa using hb
  subst e
  exact I1.fpOk (Nat.le_refl _) (I1.hok.fresh (Nat.le_refl _))
noncomputable def Qkz(ta:TA):TI:=fun σ H R=>ta σ H fun vs H1=>∃j:Int,vs=[.int j]/\-(2 ^ 62)<=j/\j<2 ^ 62/\R (Itr 0 j.toNat) H1
noncomputable def Qky(ta:TA):TI:=fun σ H R=>ta σ H fun vs H1=>∃i j:Int,vs=[.int i,.int j]/\(-(2 ^ 62)<=i/\i<2 ^ 62/\-(2 ^ 62)<=j/\j<2 ^ 62)/\R (Itr i (j-i).toNat) H1
theorem Qck{a:Expr}{ta:TA}{p pos:Pos}(hg:Gl X "range") (hm:X.mg "range"=none) (ha:PA X [a] ta) (hs:starEach [a] X.env=[(false,eval a X.env)]:=by rfl):PI X tg (.Call (.Name "range" p) [a] [] pos) (Qkz ta):=by
 intro pins s σ H R I h
 refine Call_ (ZX I hg hm boot_range (PyProof.Rows.callWith_type1 (thn (ha pos pins s σ H _ I h) fun us s1 ⟨vs,H1,I1,r1,q1⟩=>?_) hs rfl))
 obtain⟨j,e,q1,q2,q⟩:=q1
 subst e
 cases r1 with
 | cons r rr =>
  cases rr
  obtain⟨t,rfl⟩:=r
  exact call_range_1 (QaP I1 (by lia) (by lia) q1 q2 (by simpa using q))
theorem Qcj{a b:Expr}{ta:TA}{p pos:Pos}(hg:Gl X "range") (hm:X.mg "range"=none) (ha:PA X [a,b] ta) (hs:starEach [a,b] X.env=[(false,eval a X.env),(false,eval b X.env)]:=by rfl) (hs2:starEach [b] X.env=[(false,eval b X.env)]:=by rfl):
  PI X tg (.Call (.Name "range" p) [a,b] [] pos) (Qky ta):=by
 intro pins s σ H R I h
 refine Call_ (ZX I hg hm boot_range (PyProof.Rows.callWith_type1 (thn (ha pos pins s σ H _ I h) fun us s1 ⟨vs,H1,I1,r1,q1⟩=>?_) (by rw [hs,hs2]) (by rw [hs2];rfl)))
 obtain⟨i,j,e,⟨q1,q2,q3,q4⟩,q⟩:=q1
 subst e
 cases r1 with
 | cons r rr =>
  cases rr with
  | cons r' rr =>
   cases rr
   obtain⟨t,rfl⟩:=r
   obtain⟨t',rfl⟩:=r'
   exact call_range_2 (QaP I1 q1 q2 q3 q4 q)
noncomputable def QlR(wi:TI)(g:TG)(tb:TS):TS:=fun D σ H=>wi σ H fun J H1=>∃W:Nat->Nat->St->Hp->Prop,(∃m,W 0 m σ H1)/\∀i m σ H,W i m σ H ->
 (J.stop i H/\D.nx σ H)\/(J.go i H/\∃N:St->Hp->Prop,(∀σ' H',N σ' H'->∃m',m'<m/\W (i+1) m' σ' H')/\∀x H',J.yld i H x H'->g x σ H' fun σ2 H2=>tb { D with nx:=N,ct:=N,bk:=D.nx } σ2 H2)
noncomputable def Yt(fp:List Addr)(h:Heap):List (Addr×Obj):=fp.filterMap fun b=>(h.get? b).map fun o=>(b,o)
theorem Zx{fp:List Addr}{h:Heap}{b:Addr}{o:Obj}(hb:b∈fp)(e:h.get? b=some o):(b,o)∈Yt fp h:=List.mem_filterMap.mpr ⟨b,hb,by rw [e];rfl⟩
theorem Qcy{fp:List Addr}{h:Heap}{p:Addr×Obj}(hp:p∈Yt fp h):p.1∈fp/\h.get? p.1=some p.2:=by
 obtain⟨b,hb,e⟩:=List.mem_filterMap.mp hp
 cases q:h.get? b with
 | none=>rw [q]at e;cases e
 | some o =>
  rw [q]at e
  have e':(b,o)=p:=Option.some.inj e
  subst e'
  exact⟨hb,q⟩
theorem Inv.pinned{pins:List (Addr×Obj)}{σ:St}{H:Hp}{s:Shared}{fp:List Addr}(I:Inv X pins σ H s)(hf:∀b∈fp,QaH X pins H b)(ho:∀b∈fp,∃o,s.heap.get? b=some o/\∀v,o.data≠.cell v):Inv X (pins++Yt fp s.heap) σ H s :=
 I.pins_of fun p hp=>(List.mem_append.mp hp).elim (fun z=>I.pin p (List.mem_append_right _ z)) fun z=>by
  obtain⟨hb,e⟩:=Qcy z
  obtain⟨f0,f1,f2,_⟩:=hf p.1 hb
  obtain⟨o,e',d⟩:=ho p.1 hb
  rw [e]at e';cases e'
  exact⟨e,f0,f1,f2,d⟩
theorem Inv.unpinned{pins pl:List (Addr×Obj)}{σ:St}{H:Hp}{s:Shared}(I:Inv X (pins++pl) σ H s):Inv X pins σ H s:=I.pins_of fun p hp=>I.pin p (List.mem_append_right _ (List.mem_append_left _ hp))
theorem QaS{iter:Expr}{body:List Stmt}{wi:TI}{g:TG}{tb:TS}{pos:Pos}(hp:PassesOwn (model X.prog X.w) X.A X.env X.xe)(hc:X.calm=true)(hi:PI X tg iter wi)(hg:PG X tg g)(hb:PSs X body tb)
  (hs:∀x,foldedSetIterable iter X.env x=pure x:=by intro _;rfl):PS X (.For tg iter body [] pos) (QlR wi g tb):=by
 intro pins s σ H D I h
 refine wpAny_For (thn (hi pins s σ H _ I h) fun v s1 h1=>thn h1 fun itv s2 h2=>?_) hs
 obtain⟨it,fp,tn,J,H2,e,I2,T,st2,f2,W,⟨m0,w0⟩,turn⟩:=h2
 subst e
 -- what stays true of the iterator's objects through the loop
 have stat:∀{H':Hp},(∀b∈fp,H' b=none)->∀b∈fp,QaH X pins H' b:=fun hn b hb=>⟨hn b hb,(f2 b hb).2⟩
 refine codeAny_forLoop_any (fun n s'=>∃i σ' H',Inv X pins σ' H' s'/\tn i s'.heap/\(∀b∈fp,H' b=none)/\W i n σ' H') ?_ m0 ⟨0,σ,H2,I2,st2,fun b hb=>(f2 b hb).1,w0⟩
 rintro n s3 ⟨i,σ3,H3,I3,st3,fr3,w3⟩
 rcases turn i n σ3 H3 w3 with⟨stop,qn⟩ | ⟨go,N,hN,step⟩
 ·refine wpAny_passesOwn hp (thn (T.done X rfl rfl rfl hc i pins s3 σ3 H3 X.xe I3 (stat fr3) st3 stop) fun r s4 ⟨hr,I4⟩=>?_)
  subst hr
  exact wpAny_execs_nil ⟨σ3,H3,I4,qn⟩
 ·refine wpAny_passesOwn hp (thn (T.item X rfl rfl rfl hc i pins s3 σ3 H3 X.xe I3 (stat fr3) st3 go) fun r s4 ⟨u,hr,h4⟩=>?_)
  subst hr
  refine wpAny_passesOwn hp (thn h4 fun _ s5 ⟨x,H5,I5,r5,y5,st5,fr5⟩=>?_)
  have I5':=I5.pinned (stat fr5) (T.obj _ _ st5)
  refine wpAny_passesOwn hp (thn (hg _ s5 σ3 H5 x u _ I5' r5 (step x H5 y5)) fun _ s6 ⟨σ6,H6,I6,q6⟩=>?_)
  refine wpAny_passesOwn hp (thn (hb _ s6 σ6 H6 _ I6 q6) fun f s7 q7=>?_)
  have again:∀{σ7:St} {H7:Hp},Inv X (pins++Yt fp s5.heap) σ7 H7 s7->N σ7 H7->∃m,m<n/\∃i σ' H',Inv X pins σ' H' s7/\tn i s7.heap/\(∀b∈fp,H' b=none)/\W i m σ' H':=fun {σ7 H7} I7 n7=>by
   obtain⟨m',hm,w7⟩:=hN σ7 H7 n7
   refine⟨m',hm,i+1,σ7,H7,I7.unpinned,T.keep _ _ _ st5 fun b hb o e=>(I7.pin (b,o) (List.mem_append_right _ (List.mem_append_right _ (Zx hb e)))).1,fun b hb=>?_,w7⟩
   obtain⟨o,e,d⟩:=T.obj _ _ st5 b hb
   exact(I7.pin (b,o) (List.mem_append_right _ (List.mem_append_right _ (Zx hb e)))).2.1
  cases f with
  | next=>obtain⟨σ7,H7,I7,n7⟩:=q7;exact again I7 n7
  | cont=>obtain⟨σ7,H7,I7,n7⟩:=q7;exact again I7 n7
  | brk=>obtain⟨σ7,H7,I7,q7⟩:=q7;exact⟨σ7,H7,I7.unpinned,q7⟩
  | ret v=>obtain⟨x7,σ7,H7,I7,r7,q7⟩:=q7;exact⟨x7,σ7,H7,I7.unpinned,r7,q7⟩
end
end L2
namespace L2
open PySem PySem.Spec PyProof.Rows
noncomputable abbrev R2:=V->V->Hp->VK->Prop
noncomputable def OpR(X:Cx)(f:Value->Value->Sem Value)(r:R2):Prop :=
 ∀(pins:List (Addr×Obj)) (s:Shared) (σ:St) (H:Hp) (x y:V) (v u:Value) (Q:VK),Inv X pins σ H s->RelV x v->RelV y u->r x y H Q ->
  wpAny (model X.prog X.w) X.A (f v u) (EP X pins σ Q) X.xe s
noncomputable def UnR(X:Cx)(f:Value->Sem Value)(r:V->Hp->VK->Prop):Prop :=
 ∀(pins:List (Addr×Obj)) (s:Shared) (σ:St) (H:Hp) (x:V) (v:Value) (Q:VK),Inv X pins σ H s->RelV x v->r x H Q ->
  wpAny (model X.prog X.w) X.A (f v) (EP X pins σ Q) X.xe s
noncomputable def CallR(X:Cx)(f:Value)(r:List V->Hp->VK->Prop):Prop :=
 ∀(pins:List (Addr×Obj)) (s:Shared) (σ:St) (H:Hp) (xs:List V) (us:List Value) (Q:VK),Inv X pins σ H s->Vals xs us->r xs H Q ->
  wpAny (model X.prog X.w) X.A (call f us) (EP X pins σ Q) X.xe s
noncomputable def QmK(X:Cx)(r:V->Hp->(Bool->Hp->Prop)->Prop):Prop :=
 ∀(pins:List (Addr×Obj)) (s:Shared) (σ:St) (H:Hp) (x:V) (v:Value) (Q:Bool->Hp->Prop),Inv X pins σ H s->RelV x v->r x H Q ->
  wpAny (model X.prog X.w) X.A (truthy v) (TP X pins σ Q) X.xe s
noncomputable def tOp(r:R2)(ta tb:TE):TE:=fun σ H Q=>ta σ H fun x H1=>tb σ H1 fun y H2=>r x y H2 Q
noncomputable def tUn(r:V->Hp->VK->Prop)(ta:TE):TE:=fun σ H Q=>ta σ H fun x H1=>r x H1 Q
noncomputable def rI(C:Int->Int->Prop)(g:Int->Int->V):R2:=fun x y H Q=>∃i j,x=.int i/\y=.int j/\C i j/\Q (g i j) H
noncomputable def rI0(g:Int->Int->V):R2:=fun x y H Q=>∃i j,x=.int i/\y=.int j/\Q (g i j) H
noncomputable def rU(g:Int->V):V->Hp->VK->Prop:=fun x H Q=>∃i,x=.int i/\Q (g i) H
section
variable {X:Cx}{a b c:Expr}{ta tb tc:TE}{pos:Pos}
theorem QkW(ha:PE X a ta)(hb:PE X b tb){pins:List (Addr×Obj)}{s:Shared}{σ:St}{H:Hp}{R:V->V->Hp->Prop}(I:Inv X pins σ H s)
  (h:ta σ H fun x H1=>tb σ H1 fun y H2=>R x y H2) {Q:Value->Shared->Prop} {f:Value->Value->Sem Value}
  (hf:∀v u s2 x y H2,Inv X pins σ H2 s2->RelV x v->RelV y u->R x y H2->wpAny (model X.prog X.w) X.A (f v u) Q X.xe s2):
  wpAny (model X.prog X.w) X.A (eval a X.env) (fun v s₁=>wpAny (model X.prog X.w) X.A (eval b X.env) (fun u s₂=>wpAny (model X.prog X.w) X.A (f v u) Q X.xe s₂) X.xe s₁) X.xe s:=by
 refine thn (ha pins s σ H _ I h) fun v s1 ⟨x,H1,I1,r1,q1⟩=>?_
 refine thn (hb pins s1 σ H1 _ I1 q1) fun u s2 ⟨y,H2,I2,r2,q2⟩=>?_
 exact hf v u s2 x y H2 I2 r1 r2 q2
theorem Qkf{op:Operator}{r:R2}(ho:OpR X (binaryOp op) r)(ha:PE X a ta)(hb:PE X b tb):PE X (.BinOp a op b pos) (tOp r ta tb):=by
 intro pins s σ H Q I h
 exact wpAny_BinOp (QkW ha hb I h fun v u s2 x y H2 I2 rx ry q=>ho pins s2 σ H2 x y v u Q I2 rx ry q)
theorem Qh7{op:UnaryOp}{r:V->Hp->VK->Prop}(ho:UnR X (unaryOp op) r)(ha:PE X a ta):PE X (.UnaryOp op a pos) (tUn r ta):=by
 intro pins s σ H Q I h
 exact UnaryOp_ (thn (ha pins s σ H _ I h) fun v s1 ⟨x,H1,I1,r1,q1⟩=>ho pins s1 σ H1 x v Q I1 r1 q1)
theorem opI{f:Value->Value->Sem Value}{C:Int->Int->Prop}{g:Int->Int->Int}
  (rule:∀(i j:Int) (t u:Tok) (s:Shared) (Q:Value->Shared->Prop) (E:Value->Shared->Prop),C i j->Q (.int (g i j) s.toks) { s with toks:=s.toks+1 }->wpAny (model X.prog X.w) X.A (f (.int i t) (.int j u)) Q E s):
  OpR X f (rI C fun i j=>.int (g i j)):=by
 intro pins s σ H x y v u Q I rx ry h
 obtain⟨i,j,rfl,rfl,hc,q⟩:=h
 obtain⟨t,rfl⟩:=rx
 obtain⟨t',rfl⟩:=ry
 exact rule i j t t' s _ _ hc ⟨.int (g i j),H,I.tok _,⟨_,rfl⟩,q⟩
theorem Qln{f:Value->Value->Sem Value}{g:Int->Int->Int}
  (rule:∀(i j:Int) (t u:Tok) (s:Shared) (Q:Value->Shared->Prop) (E:Value->Shared->Prop),Q (.int (g i j) s.toks) { s with toks:=s.toks+1 }->wpAny (model X.prog X.w) X.A (f (.int i t) (.int j u)) Q E s):
  OpR X f (rI0 fun i j=>.int (g i j)):=by
 intro pins s σ H x y v u Q I rx ry h
 obtain⟨i,j,rfl,rfl,q⟩:=h
 obtain⟨t,rfl⟩:=rx
 obtain⟨t',rfl⟩:=ry
 exact rule i j t t' s _ _ ⟨.int (g i j),H,I.tok _,⟨_,rfl⟩,q⟩
theorem Qjn{f:Value->Value->Sem Value}{g:Int->Int->Bool}
  (rule:∀(i j:Int) (t u:Tok) (s:Shared) (Q:Value->Shared->Prop) (E:Value->Shared->Prop),Q (.bool (g i j)) s->wpAny (model X.prog X.w) X.A (f (.int i t) (.int j u)) Q E s):
  OpR X f (rI0 fun i j=>.bl (g i j)):=by
 intro pins s σ H x y v u Q I rx ry h
 obtain⟨i,j,rfl,rfl,q⟩:=h
 obtain⟨t,rfl⟩:=rx
 obtain⟨t',rfl⟩:=ry
 exact rule i j t t' s _ _ ⟨.bl (g i j),H,I,rfl,q⟩
noncomputable def QmQ(i j:Int):Prop:=0<=j/\j<=1000000/\i.natAbs<2 ^ 64
noncomputable def CMul(i j:Int):Prop:=(-(2 ^ 64) < i/\i<2 ^ 64)\/(-(2 ^ 64) < j/\j<2 ^ 64)
theorem CMul.ok{i j:Int}(h:CMul i j):IntMulOk i j:=by
 rcases h with⟨h1,h2⟩ | ⟨h1,h2⟩
 ·exact .of_left (intBits_le_64 h1 h2)
 ·exact .of_right (intBits_le_64 h1 h2)
theorem Qiq:OpR X (binaryOp .Add) (rI0 fun i j=>.int (i+j)):=Qln fun _ _ _ _ _ _ _ q=>add_int q
theorem Qie:OpR X (binaryOp .Sub) (rI0 fun i j=>.int (i-j)):=Qln fun _ _ _ _ _ _ _ q=>sub_int q
theorem Qik:OpR X (binaryOp .Mod) (rI (fun _ j=>0<j) fun i j=>.int (i % j)):=opI fun i j _ _ _ _ _ hc q=>by
 have h1:(0:Int) < j:=hc
 exact mod_int' (by lia) (by rw [Int.fmod_eq_emod_of_nonneg i (by lia)];exact q)
theorem Qig:OpR X (binaryOp .Pow) (rI QmQ fun i j=>.int (i ^ j.toNat)):=opI fun _ _ _ _ _ _ _ hc q=>pow_int_small hc.1 hc.2.1 hc.2.2 q
theorem unI{f:Value->Sem Value}{g:Int->Int}
  (rule:∀(i:Int) (t:Tok) (s:Shared) (Q:Value->Shared->Prop) (E:Value->Shared->Prop),Q (.int (g i) s.toks) { s with toks:=s.toks+1 }->wpAny (model X.prog X.w) X.A (f (.int i t)) Q E s):
  UnR X f (rU fun i=>.int (g i)):=by
 intro pins s σ H x v Q I rx h
 obtain⟨i,rfl,q⟩:=h
 obtain⟨t,rfl⟩:=rx
 exact rule i t s _ _ ⟨.int (g i),H,I.tok _,⟨_,rfl⟩,q⟩
theorem QeX:UnR X (unaryOp .USub) (rU fun i=>.int (-i)):=unI fun _ _ _ _ _ q=>neg_int q
end
noncomputable def scal:V->V->Bool
 | .non,.non=>true | .non,.int _=>true | .int _,.non=>true | .non,.bl _=>true | .bl _,.non=>true | .non,.str _=>true | .str _,.non=>true
 | .int _,.int _=>true | .bl _,.bl _=>true | .str _,.str _=>true | .byt _,.byt _=>true
 | .int _,.str _=>true | .str _,.int _=>true | .bl _,.str _=>true | .str _,.bl _=>true
 | _,_=>false
noncomputable def rEq:R2:=fun x y H Q=>scal x y=true/\Q (.bl (decide (x=y))) H
noncomputable def rNe:R2:=fun x y H Q=>scal x y=true/\Q (.bl (!decide (x=y))) H
theorem Qdd{i j:Int}:decide (V.int i=V.int j)=(i==j):=by
 rw [Bool.eq_iff_iff]
 simp
theorem Qfr{i j:Bool}:decide (V.bl i=V.bl j)=(i==j):=by
 rw [Bool.eq_iff_iff]
 simp
theorem Qdc{i j:Str}:decide (V.str i=V.str j)=(i==j):=by
 rw [Bool.eq_iff_iff]
 simp
theorem Qde{i j:Array UInt8}:decide (V.byt i=V.byt j)=(i.toList==j.toList):=by
 rw [Bool.eq_iff_iff]
 cases i
 cases j
 simp
section
variable {X:Cx}{a b c:Expr}{ta tb tc:TE}{pos:Pos}
theorem QA{pins:List (Addr×Obj)}{σ:St}{H:Hp}{s:Shared}{Q:VK}{k k':Bool}(I:Inv X pins σ H s)(q:Q (.bl k) H)(e:k=k'):EP X pins σ Q (.bool k') s:=by
 subst e
 exact⟨.bl k,H,I,rfl,q⟩
theorem Qko:OpR X (compareOp .Eq) rEq:=by
 intro pins s σ H x y v u Q I rx ry h
 obtain⟨hs,q⟩:=h
 cases x with
 | non =>
  cases rx
  cases y with
  | non=>cases ry;exact PySem.EqNone.eq_none_none (QA I q (by simp))
  | bl j=>cases ry;exact PySem.EqNone.eq_none_bool (QA I q (by simp))
  | int j=>obtain⟨t',rfl⟩:=ry;exact PySem.EqNone.eq_none_int (QA I q (by simp))
  | str j=>obtain⟨t',rfl⟩:=ry;exact PySem.EqNone.eq_none_str (QA I q (by simp))
  | _=>exact absurd (show false=true from hs) Bool.false_ne_true
 | bl i =>
  cases rx
  cases y with
  | non=>cases ry;exact PySem.EqNone.eq_bool_none (QA I q (by simp))
  | bl j=>cases ry;exact eq_bool (QA I q Qfr)
  | str j=>obtain⟨t',rfl⟩:=ry;exact PySem.EqMixed.eq_bool_str (QA I q (by simp))
  | _=>exact absurd (show false=true from hs) Bool.false_ne_true
 | int i =>
  obtain⟨t,rfl⟩:=rx
  cases y with
  | non=>cases ry;exact PySem.EqNone.eq_int_none (QA I q (by simp))
  | int j=>obtain⟨t',rfl⟩:=ry;exact eq_int (QA I q Qdd)
  | str j=>obtain⟨t',rfl⟩:=ry;exact PySem.EqMixed.eq_int_str (QA I q (by simp))
  | _=>exact absurd (show false=true from hs) Bool.false_ne_true
 | str i =>
  obtain⟨t,rfl⟩:=rx
  cases y with
  | non=>cases ry;exact PySem.EqNone.eq_str_none (QA I q (by simp))
  | bl j=>cases ry;exact PySem.EqMixed.eq_str_bool (QA I q (by simp))
  | int j=>obtain⟨t',rfl⟩:=ry;exact PySem.EqMixed.eq_str_int (QA I q (by simp))
  | str j=>obtain⟨t',rfl⟩:=ry;exact eq_str (QA I q Qdc)
  | _=>exact absurd (show false=true from hs) Bool.false_ne_true
 | byt i =>
  obtain⟨t,rfl⟩:=rx
  cases y with
  | byt j=>obtain⟨t',rfl⟩:=ry;exact PySem.W.eq_bytes (QA I q Qde)
  | _=>exact absurd (show false=true from hs) Bool.false_ne_true
 | _=>cases y<;>exact absurd (show false=true from hs) Bool.false_ne_true
theorem Qkj:OpR X (compareOp .NotEq) rNe:=by
 intro pins s σ H x y v u Q I rx ry h
 obtain⟨hs,q⟩:=h
 cases x with
 | non =>
  cases rx
  cases y with
  | non=>cases ry;exact PySem.EqNone.ne_none_none (QA I q (by simp))
  | bl j=>cases ry;exact PySem.EqNone.ne_none_bool (QA I q (by simp))
  | int j=>obtain⟨t',rfl⟩:=ry;exact PySem.EqNone.ne_none_int (QA I q (by simp))
  | str j=>obtain⟨t',rfl⟩:=ry;exact PySem.EqNone.ne_none_str (QA I q (by simp))
  | _=>exact absurd (show false=true from hs) Bool.false_ne_true
 | bl i =>
  cases rx
  cases y with
  | non=>cases ry;exact PySem.EqNone.ne_bool_none (QA I q (by simp))
  | bl j=>cases ry;exact ne_bool (QA I q (congrArg not Qfr))
  | str j=>obtain⟨t',rfl⟩:=ry;exact PySem.EqMixed.ne_bool_str (QA I q (by simp))
  | _=>exact absurd (show false=true from hs) Bool.false_ne_true
 | int i =>
  obtain⟨t,rfl⟩:=rx
  cases y with
  | non=>cases ry;exact PySem.EqNone.ne_int_none (QA I q (by simp))
  | int j=>obtain⟨t',rfl⟩:=ry;exact ne_int (QA I q (congrArg not Qdd))
  | str j=>obtain⟨t',rfl⟩:=ry;exact PySem.EqMixed.ne_int_str (QA I q (by simp))
  | _=>exact absurd (show false=true from hs) Bool.false_ne_true
 | str i =>
  obtain⟨t,rfl⟩:=rx
  cases y with
  | non=>cases ry;exact PySem.EqNone.ne_str_none (QA I q (by simp))
  | bl j=>cases ry;exact PySem.EqMixed.ne_str_bool (QA I q (by simp))
  | int j=>obtain⟨t',rfl⟩:=ry;exact PySem.EqMixed.ne_str_int (QA I q (by simp))
  | str j=>obtain⟨t',rfl⟩:=ry;exact ne_str (QA I q (congrArg not Qdc))
  | _=>exact absurd (show false=true from hs) Bool.false_ne_true
 | byt i =>
  obtain⟨t,rfl⟩:=rx
  cases y with
  | byt j=>obtain⟨t',rfl⟩:=ry;exact PySem.W.ne_bytes (QA I q (congrArg not Qde))
  | _=>exact absurd (show false=true from hs) Bool.false_ne_true
 | _=>cases y<;>exact absurd (show false=true from hs) Bool.false_ne_true
theorem Qkk:OpR X (compareOp .Lt) (rI0 fun i j=>.bl (decide (i<j))):=Qjn fun _ _ _ _ _ _ _ q=>lt_int q
theorem Qkl:OpR X (compareOp .LtE) (rI0 fun i j=>.bl (decide (i<=j))):=Qjn fun _ _ _ _ _ _ _ q=>le_int q
theorem Qkm:OpR X (compareOp .Gt) (rI0 fun i j=>.bl (decide (j<i))):=Qjn fun _ _ _ _ _ _ _ q=>gt_int q
theorem Qkn:OpR X (compareOp .GtE) (rI0 fun i j=>.bl (decide (j<=i))):=Qjn fun _ _ _ _ _ _ _ q=>ge_int q
theorem Qcv:OpR X (compareOp .In) (fun x y H Q=>∃i j,x=.str i/\y=.str j/\Q (.bl (!(Builtin.Str.occurrences j i 0 j.length 1).isEmpty)) H):=by
 intro pins s σ H x y v u Q I rx ry h
 obtain⟨i,j,rfl,rfl,q⟩:=h
 obtain⟨t,rfl⟩:=rx
 obtain⟨t',rfl⟩:=ry
 exact in_str (QA I q rfl)
theorem Qfd:OpR X (compareOp .Is) (fun x y H Q=>y=.non/\Q (.bl (decide (x=.non))) H):=by
 intro pins s σ H x y v u Q I rx ry h
 obtain⟨rfl,q⟩:=h
 cases ry
 refine is_none_gen (QA I q ?_)
 cases x<;>first
  | (cases rx;rfl)
  | (obtain⟨t,rfl⟩:=rx;rfl)
theorem Qgh:OpR X (compareOp .IsNot) (fun x y H Q=>y=.non/\Q (.bl (!decide (x=.non))) H):=by
 intro pins s σ H x y v u Q I rx ry h
 obtain⟨rfl,q⟩:=h
 cases ry
 refine isnot_none_gen (QA I q ?_)
 cases x<;>first
  | (cases rx;rfl)
  | (obtain⟨t,rfl⟩:=rx;rfl)
theorem JA:OpR X (compareOp .NotIn) (fun x y H Q=>∃i j,x=.str i/\y=.str j/\Q (.bl (!(!(Builtin.Str.occurrences j i 0 j.length 1).isEmpty))) H):=by
 intro pins s σ H x y v u Q I rx ry h
 obtain⟨i,j,rfl,rfl,q⟩:=h
 obtain⟨t,rfl⟩:=rx
 obtain⟨t',rfl⟩:=ry
 exact notIn_str (QA I q rfl)
theorem OpR.or{f:Value->Value->Sem Value}{r r':R2}(h:OpR X f r)(h':OpR X f r'):OpR X f (fun x y H Q=>r x y H Q\/r' x y H Q):=by
 intro pins s σ H x y v u Q I rx ry q
 rcases q with q | q
 ·exact h pins s σ H x y v u Q I rx ry q
 ·exact h' pins s σ H x y v u Q I rx ry q
theorem Qis(b:Expr){op:CmpOp}(h:op≠.In:=by decide)(h2:op≠.NotIn:=by decide):behindInMarks op b=false:=by
 have e1:(op==CmpOp.In)=false:=by cases op<;>first | rfl | exact absurd rfl h
 have e2:(op==CmpOp.NotIn)=false:=by cases op<;>first | rfl | exact absurd rfl h2
 cases b<;>simp [behindInMarks,e1,e2]
theorem Qge{op:CmpOp}{r:R2}(ho:OpR X (compareOp op) r)(ha:PE X a ta)(hb:PE X b tb)(hm:behindInMarks op b=false):PE X (.Compare a [op] [b] pos) (tOp r ta tb):=by
 intro pins s σ H Q I h
 exact wpAny_Compare1 (QkW ha hb I h fun v u s2 x y H2 I2 rx ry q=>ho pins s2 σ H2 x y v u Q I2 rx ry q) hm
noncomputable def Qhs(t:TE):TT:=fun σ H Q=>t σ H fun x H'=>∃k,x=.bl k/\Q k H'
theorem Qcb{op:CmpOp}{r:R2}(ho:OpR X (compareOp op) r)(ha:PE X a ta)(hb:PE X b tb)(hm:behindInMarks op b=false):PT X (.Compare a [op] [b] pos) (Qhs (tOp r ta tb)):=by
 intro pins s σ H Q I h
 refine wpAny_isTrue_Compare1 (thn (ha pins s σ H _ I h) fun v s1 ⟨x,H1,I1,r1,q1⟩=>thn (hb pins s1 σ H1 _ I1 q1) fun u s2 ⟨y,H2,I2,r2,q2⟩=>
  thn (ho pins s2 σ H2 x y v u _ I2 r1 r2 q2) fun c s3 ⟨z,H3,I3,r3,k,e,q3⟩=>?_) hm
 subst e
 cases r3
 exact wpAny_truthy_bool ⟨H3,I3,q3⟩
noncomputable def Qjb(K:PySem.W.Frag)(x:V)(H:Hp)(k:Bool):Prop :=
 match x with
 | .non=>k=false
 | .bl b=>k=b
 | .int i=>k=(i != 0)
 | .str y=>y.length<=sizeLine/\k=((y.length:Int) != 0)
 | .byt y=>y.size<=sizeLine/\k=((y.size:Int) != 0)
 | .ref p=>(∃xs,SqL K H p xs/\k=!xs.isEmpty)\/(∃xs,SqT K H p xs/\k=!xs.isEmpty)\/∃kvs,H p=some (.dK kvs)/\k=!kvs.isEmpty
 | _=>False
theorem Qbz{κ:Type}{kvs:List (κ×V)}{vs:List (κ×Value)}(r:KV kvs vs):(!vs.isEmpty)=!kvs.isEmpty:=by
 cases r<;>rfl
theorem YV{xs:List V}{its:List Value}(r:Vals xs its):(!its.toArray.isEmpty)=!xs.isEmpty:=by
 cases r<;>simp
theorem YT:(sizeLine:Nat) < 2 ^ 63:=by rw [sizeLine_eq];decide
theorem QeZ:QmK X (fun x H Q=>∃k,Qjb X.K x H k/\Q k H):=by
 intro pins s σ H x v Q I rx h
 obtain⟨k,e,q⟩:=h
 have hl:=YT
 have hs:sizeLine=16777216:=sizeLine_eq
 cases x with
 | non =>
  cases rx
  have e':k=false:=e
  subst e'
  exact truthy_none ⟨H,I,q⟩
 | bl b =>
  cases rx
  have e':k=b:=e
  subst e'
  exact wpAny_truthy_bool ⟨H,I,q⟩
 | int i =>
  obtain⟨t,rfl⟩:=rx
  have e':k=(i != 0):=e
  subst e'
  exact PySem.P.truthy_int ⟨H,I,q⟩
 | str y =>
  obtain⟨t,rfl⟩:=rx
  obtain⟨hy,e'⟩:y.length<=sizeLine/\k=((y.length:Int) != 0):=e
  subst e'
  exact PySem.P.truthy_str (by lia) ⟨H,I.tok _,q⟩
 | byt y =>
  obtain⟨t,rfl⟩:=rx
  obtain⟨hy,e'⟩:y.size<=sizeLine/\k=((y.size:Int) != 0):=e
  subst e'
  exact PySem.W.truthy_bytes (by lia) ⟨H,I.tok _,q⟩
 | ref p =>
  cases rx
  have e':(∃xs,SqL X.K H p xs/\k=!xs.isEmpty)\/(∃xs,SqT X.K H p xs/\k=!xs.isEmpty)\/∃kvs,H p=some (.dK kvs)/\k=!kvs.isEmpty:=e
  rcases e' with⟨xs,hx,e'⟩ | ⟨xs,hx,e'⟩ | ⟨kvs,hx,e'⟩
  ·subst e'
   obtain⟨its,r,pl,hz⟩:=I.list hx
   have hlen:=r.length
   exact wpAny_truthy_list pl.isList (by simp only [List.size_toArray];lia) ⟨H,I.tok _,by rw [YV r];exact q⟩
  ·subst e'
   obtain⟨its,r,pl,hz⟩:=I.tuple hx
   have hlen:=r.length
   exact truthy_tuple pl (by simp only [List.size_toArray];lia) ⟨H,I.tok _,by rw [YV r];exact q⟩
  ·subst e'
   obtain⟨hz,hS,vs,r,m⟩:kvs.length<=sizeLine/\(p==sysModules)=false/\∃vs,KV kvs vs/\s.heap.DictOf (QB X.prog X.w) p vs:=I.hok p _ hx
   have hlen:kvs.length=vs.length:=Paired.length r
   exact wpAny_truthy_dict hS m (by lia) ⟨H,I.tok _,by rw [Qbz r];exact q⟩
 | _=>exact(show False from e).elim
theorem Qd9(ha:PE X a ta)(he:∀whole,isTrue a X.env whole=(do let v <-whole;standAt a.pos;holding [v] (truthy v))):
  PT X a (fun σ H Q=>ta σ H fun x H'=>∃k,Qjb X.K x H' k/\Q k H'):=by
 intro pins s σ H Q I h
 exact isTrue_plain (thn (ha pins s σ H _ I h) fun v s1 ⟨x,H1,I1,r1,q1⟩=>QeZ pins s1 σ H1 x v Q I1 r1 q1) (he _)
theorem Qbs:OpR X (binaryOp .Add) (fun x y H Q=>∃i j,x=.str i/\y=.str j/\i.length+j.length<=sizeLine/\Q (.str (i++j)) H):=by
 intro pins s σ H x y v u Q I rx ry h
 obtain⟨i,j,rfl,rfl,hz,q⟩:=h
 obtain⟨t,rfl⟩:=rx
 obtain⟨t',rfl⟩:=ry
 exact add_str (fun t' tk=>⟨.str (i++j),H,I.tok _,⟨_,rfl⟩,q⟩) hz
theorem Jr{x:V}{us:List Value}(r:Vals [x] us):∃u,us=[u]/\RelV x u:=by
 cases r with
 | cons r1 r2=>cases r2;exact⟨_,rfl,r1⟩
theorem QdM{x y:V}{us:List Value}(r:Vals [x,y] us):∃u w',us=[u,w']/\RelV x u/\RelV y w':=by
 cases r with
 | cons r1 r2 =>
  cases r2 with
  | cons r3 r4=>cases r4;exact⟨_,_,rfl,r1,r3⟩
end
end L2
namespace L2
open PySem PySem.Spec PyProof.Rows
structure ObjM(h:Heap)(x dx C:Addr)(mA:Str->Option Value):Prop where
 obj:h.get? x=some (PySem.W.instObj C dx)
 ns:h.Ns1 dx mA
 ne:dx≠x
theorem JG{h:Heap}{dx:Addr}{mA:Str->Option Value}(n:h.Ns1 dx mA):∃od,h.get? dx=some od/\∀name,PySem.W.lookIn name od=some (mA name):=by
 obtain⟨o,es,ep,ho,hd,hk,_,hm⟩:=n
 refine⟨o,ho,fun name=>?_⟩
 have e:=hm name
 unfold nsFind findBy at e
 rw [<-Array.find?_toList]at e
 unfold PySem.W.lookIn
 rw [hd]
 dsimp only
 split
 ·rename_i y q
  rw [q]at e
  exact congrArg some e
 ·rename_i q
  rw [q]at e
  have a:es.toList.any (·.refKey)=false:=by
   rw [List.any_eq_false]
   intro y hy
   obtain⟨z,t,hkey⟩:=hk y (Array.mem_toList_iff.mp hy)
   simp [DictEntry.refKey,hkey]
  have a':¬es.toList.any (·.refKey)=true:=by rw [a];exact Bool.false_ne_true
  rw [if_neg a']
  exact congrArg some e
theorem ObjM.look{h:Heap}{x dx C:Addr}{mA:Str->Option Value}(I:ObjM h x dx C mA):∃od,PySem.W.InstAt h x (PySem.W.instObj C dx) C (some od)/\∀name,PySem.W.lookIn name od=some (mA name):=
 let ⟨od,ho,hl⟩:=JG I.ns
 ⟨od,⟨I.obj,rfl,rfl,ho⟩,hl⟩
section
variable {prog:Program}{w:World}{A:Around}{E:Value->Shared->Prop}{s:Shared}{K:PySem.W.Frag}{x dx C f:Addr}{mA:Str->Option Value}{name:Str}{v:Value}
theorem QgF{expr:Bool}{Q:Value->Shared->Prop}(X:K.In s.heap)(I:ObjM s.heap x dx C mA)(hg:PySem.W.plainGet K C name=true)(hh:PySem.W.hasDictIn K C=true)
  (ha:PySem.W.findIn K (.ref C) name=some none) (hv:mA name=some v) (hv':PySem.W.handedIn v=true) (h:Q v { s with toks:=s.toks+1 }):
  wpAny (model prog w) A (getAttr (.ref x) name expr) Q E s:=by
 obtain⟨od,J,hl⟩:=I.look
 exact PySem.W.get_value X J (PySem.W.plainGet_of hg).1 (PySem.W.findObj_own hh ha rfl (by rw [hl,hv])) hv' h
end
theorem RelO.some_of{v:V}{o:Option Value}(r:RelO (some v) o):∃u,o=some u/\RelV v u:=by
 cases o with
 | none=>exact(show False from r).elim
 | some u=>exact⟨u,rfl,r⟩
theorem JM{v:V}{u:Value}(r:RelV v u):PySem.W.handedIn u=true:=by
 cases v with
 | non=>cases(show u=Value.none from r);rfl
 | bl b=>cases(show u=Value.bool b from r);rfl
 | int i=>obtain⟨t,e⟩:=(show ∃t,u=Value.int i t from r);cases e;rfl
 | str x=>obtain⟨t,e⟩:=(show ∃t,u=Value.str x t from r);cases e;rfl
 | byt b=>obtain⟨t,e⟩:=(show ∃t,u=Value.bytes b t from r);cases e;rfl
 | flt b=>obtain⟨t,e⟩:=(show ∃t,u=Value.float b t from r);cases e;rfl
 | ref a=>cases(show u=Value.ref a from r);rfl
 | ty n=>cases(show u=Value.type n from r);rfl
section
variable {P:Program}{w:World}{H H':Hp}{h h':Heap}{a C dx:Addr}{fs fs':List (Str×V)}
theorem QcU(hok:HOk P w H h)(e:H a=some (.ins C dx fs)):∃mA,ObjM h a dx C mA/\(∀f,RelO (fs.lookup f) (mA f))/\PySem.Within mA (fs.map (·.1))/\fs.length<=1000/\H dx=some (.own a):=by
 obtain⟨d,z,ne,ob,mA,n,r,q⟩:=(show ObjOk P w H h a (.ins C dx fs)from hok a _ e)
 exact⟨mA,⟨ob,n,ne⟩,r,q,z,d⟩
end
structure Cls(K:PySem.W.Frag)(C:Addr):Prop where
 pg:PySem.W.plainGet K C Str.empty=true
 hd:PySem.W.hasDictIn K C=true
 po:PySem.W.plainOver K C=true
 sa:PySem.W.findIn K (.ref C) "__setattr__"=some (some (.builtin "object.__setattr__"))
theorem Cls.get{K:PySem.W.Frag}{C:Addr}(c:Cls K C)(f:Str):PySem.W.plainGet K C f=true:=c.pg
noncomputable def QdD(K:PySem.W.Frag)(C:Addr)(f:Str):Prop:=PySem.W.findIn K (.ref C) f=some none
structure Meth(K:PySem.W.Frag)(C:Addr)(m:Str)(f:Addr):Prop where
 at_:PySem.W.findIn K (.ref C) m=some (some (.ref f))
 fn:PySem.W.isFn K (.ref f)=true
 kp:PySem.W.keepIn K (.ref f)=true
section
variable {X:Cx}{pins:List (Addr×Obj)}{σ:St}{H:Hp}{s:Shared}{a C dx:Addr}{fs:List (Str×V)}{f:Str}{v:V}{A:Around}{E:Value->Shared->Prop}
theorem QbA{b:Bool}{Q:Value->Shared->Prop}(I:Inv X pins σ H s)(e:H a=some (.ins C dx fs))(c:Cls X.K C)(n:QdD X.K C f)(l:fs.lookup f=some v)
  (h:∀u s',Inv X pins σ H s'->RelV v u->Q u s'):wpAny (model X.prog X.w) A (getAttr (.ref a) f b) Q E s:=by
 obtain⟨mA,O,r,_,_,_⟩:=QcU I.hok e
 obtain⟨u,hu,ru⟩:=RelO.some_of (v:=v) (o:=mA f) (by rw [<-l];exact r f)
 exact QgF I.kIn O (c.get f) c.hd n hu (JM ru) (h u _ (I.tok _) ru)
theorem Qdz{prog:Program}{w:World}{env:Env}{e:Expr}{f:Str}{pos:Pos}{s:Shared}{Q:Value->Shared->Prop}(hb:attributeBase e f env (eval e env)=eval e env)
  (h:wpAny (model prog w) A (eval e env) (fun o s₁=>wpAny (model prog w) A (getAttr o f true) Q E s₁) E s):wpAny (model prog w) A (eval (.Attribute e f pos) env) Q E s :=
 Attribute_any_ h (by rw [arm_eval_Attribute,hb])
end
noncomputable def QlS(K:PySem.W.Frag)(ta:TE)(f:Str):TE:=fun σ H Q=>ta σ H fun x H1=>∃a C dx fs v,x=.ref a/\H1 a=some (.ins C dx fs)/\Cls K C/\QdD K C f/\fs.lookup f=some v/\Q v H1
section
variable {X:Cx}{o e value:Expr}{f:Str}{pos pos' tpos:Pos}{ta tv:TE}
theorem Qib(he:PE X e ta)(hb:attributeBase e f X.env (eval e X.env)=eval e X.env):PE X (.Attribute e f pos) (QlS X.K ta f):=by
 intro pins s σ H Q I h
 refine Qdz hb (thn (he pins s σ H _ I h) fun u s1 ⟨x,H1,I1,rx,a,C,dx,fs,v,ex,ea,c,n,l,q⟩=>?_)
 subst ex
 obtain rfl:u=Value.ref a:=rx
 exact QbA I1 ea c n l fun u' s2 I2 ru=>⟨v,H1,I2,ru,q⟩
end
section
variable {X:Cx}{pins:List (Addr×Obj)}{σ:St}{H:Hp}{s:Shared}{A:Around}{E:Value->Shared->Prop}{Q:Value->Shared->Prop}{c:Value}{b:Bool}
inductive TyOf(K:PySem.W.Frag)(H:Hp):V->Value->Prop where
 | non:TyOf K H .non (.type "NoneType")
 | bl (x:Bool):TyOf K H (.bl x) (.type "bool")
 | int (i:Int):TyOf K H (.int i) (.type "int")
 | str (x:Str):TyOf K H (.str x) (.type "str")
 | flt (x:UInt64):TyOf K H (.flt x) (.type "float")
 | lst {a:Addr} {xs:List V} (e:H a=some (.lst xs)):TyOf K H (.ref a) (.type "list")
 | frz {a:Addr} {o:Obj} {xs:List V} (e:H a=some (.frz o (.lst xs))):TyOf K H (.ref a) (.type "list")
 | tup {a:Addr} {xs:List V} (e:H a=some (.tup xs)):TyOf K H (.ref a) (.type "tuple")
 | dK {a:Addr} {kvs:List (Key×V)} (e:H a=some (.dK kvs)):TyOf K H (.ref a) (.type "dict")
 | dT {a:Addr} {kvs:List (List Key×V)} (e:H a=some (.dT kvs)):TyOf K H (.ref a) (.type "dict")
 | ins {a C dx:Addr} {fs:List (Str×V)} (e:H a=some (.ins C dx fs)) (cl:Cls K C) (ha:PySem.W.findIn K (.ref C) "__class__"=some (some (.builtin "object.__class__")))
   (hn:PySem.W.specialIn K (.builtin "object.__class__") "__get__"=some (some (.builtin "getset_descriptor.__get__"))) (htk:PySem.W.takesIn K (.builtin "object.__class__")=some true)
   (hm:PySem.W.mroIn K C (.type "object")=some true):TyOf K H (.ref a) (.ref C)
theorem QcP{x:V}{u t:Value}(I:Inv X pins σ H s)(rx:RelV x u)(ty:TyOf X.K H x t)(e:PySem.W.kitOne X.K t c=some b)(h:∀tk,Q (.bool b) { s with toks:=tk }):
  wpAny (model X.prog X.w) A (call (.builtin "isinstance") [u,c]) Q E s:=by
 cases ty with
 | non=>cases(show u=Value.none from rx);exact PySem.W.kia_one PySem.W.kitx_none I.kIn True.intro e (fun z=>nomatch z) h
 | bl y=>cases(show u=Value.bool y from rx);exact PySem.W.kia_one PySem.W.kitx_bool I.kIn True.intro e (fun z=>nomatch z) h
 | int i=>obtain⟨t,q⟩:=(show ∃t,u=Value.int i t from rx);cases q;exact PySem.W.kia_one PySem.W.kitx_int I.kIn True.intro e (fun z=>nomatch z) h
 | str y=>obtain⟨t,q⟩:=(show ∃t,u=Value.str y t from rx);cases q;exact PySem.W.kia_one PySem.W.kitx_str I.kIn True.intro e (fun z=>nomatch z) h
 | flt y=>obtain⟨t,q⟩:=(show ∃t,u=Value.float y t from rx);cases q;exact PySem.W.kia_one PySem.W.kitx_float I.kIn True.intro e (fun z=>nomatch z) h
 | @lst a xs ea =>
  cases(show u=Value.ref a from rx)
  obtain⟨_,_,n,_,h1⟩:=(show ObjOk X.prog X.w H s.heap a (.lst xs)from I.hok a _ ea)
  exact PySem.W.kia_one PySem.W.kitx_list I.kIn ⟨_,h1,rfl⟩ e (fun z=>nomatch z) h
 | @frz a ob xs ea =>
  cases(show u=Value.ref a from rx)
  obtain⟨_,_,_,n,_,h1⟩:=(show ObjOk X.prog X.w H s.heap a (.frz ob (.lst xs))from I.hok a _ ea)
  exact PySem.W.kia_one PySem.W.kitx_list I.kIn ⟨_,h1,rfl⟩ e (fun z=>nomatch z) h
 | @tup a xs ea =>
  cases(show u=Value.ref a from rx)
  obtain⟨_,_,_,p⟩:=(show ObjOk X.prog X.w H s.heap a (.tup xs)from I.hok a _ ea)
  obtain⟨o,h1,h2,_⟩:=p
  exact PySem.W.kia_one PySem.W.kitx_tuple I.kIn ⟨o,h1,h2⟩ e (fun z=>nomatch z) h
 | @dK a kvs ea =>
  cases(show u=Value.ref a from rx)
  obtain⟨_,_,vs,_,p⟩:=(show ObjOk X.prog X.w H s.heap a (.dK kvs)from I.hok a _ ea)
  obtain⟨o,es,ep,h1,h2,_⟩:=p
  exact PySem.W.kia_one PySem.W.kitx_dict I.kIn ⟨o,h1,h2.1⟩ e (fun z=>nomatch z) h
 | @dT a kvs ea =>
  cases(show u=Value.ref a from rx)
  obtain⟨_,_,xs,_,o,es,ep,h1,h2,_⟩:=(show ObjOk X.prog X.w H s.heap a (.dT kvs)from I.hok a _ ea)
  exact PySem.W.kia_one PySem.W.kitx_dict I.kIn ⟨o,h1,h2.1⟩ e (fun z=>nomatch z) h
 | @ins a C dx fs ea cl ha hn htk hm =>
  cases(show u=Value.ref a from rx)
  obtain⟨mA,O,_⟩:=QcU I.hok ea
  obtain⟨od,J,_⟩:=O.look
  exact PySem.W.kia_one (PySem.W.kitx_own (cl.get _) cl.hd ha hn htk hm) I.kIn J e (fun z=>nomatch z) h
end
end L2
namespace L2
open PySem PySem.Spec PyProof.Rows
structure Room(k:Nat)(A:Around):Prop where
 hd:A.handled=none
 dp:A.depth+3*k+5<recursionLimit
 un:A.units+16*k+200<cLine
theorem Room.mono{j k:Nat}{A:Around}(r:Room k A)(h:j<=k):Room j A:=⟨r.hd,by have:=r.dp;lia,by have:=r.un;lia⟩
theorem Room.deeper{k:Nat}{A:Around}(r:Room (k+1) A)(env:Env):Room k (A.deeper env):=
 ⟨r.hd,by have:=r.dp;show A.depth+1+3*k+5<_;lia,by have:=r.un;show A.units+3+16*k+200<_;lia⟩
theorem Qbv{A:Around}{C:Addr}{us:List Value}{kw:List (Str×Value)}:(A.under (.builtin "type.__call__" ⟨.ref C::us,kw⟩)).depth=A.depth+1:=by
 first | rfl | simp [Around.under,Code.weight,Code.isCreation,Code.isGuard,Code.isCaller,Code.frames,Code.isFrame,guardIds]
theorem Qbu{A:Around}{C:Addr}{us:List Value}{kw:List (Str×Value)}:(A.under (.builtin "type.__call__" ⟨.ref C::us,kw⟩)).units=A.units+1:=by
 first | rfl | simp [Around.under,Code.cUnits,Code.frames,Code.isFrame]
theorem Room.make{k:Nat}{A:Around}(r:Room (k+1) A)(C:Addr)(us:List Value)(kw:List (Str×Value)):Room k (A.under (.builtin "type.__call__" ⟨.ref C::us,kw⟩)):=
 ⟨r.hd,by have:=r.dp;rw [Qbv];lia,by have:=r.un;rw [Qbu];lia⟩
theorem Room.depth{k:Nat}{A:Around}(r:Room k A):A.depth<recursionLimit:=by have:=r.dp;lia
theorem Room.units{k:Nat}{A:Around}(r:Room k A):A.units+64<cLine:=by have:=r.un;lia
noncomputable def QjG:TA:=fun _ H Q=>Q [] H
noncomputable def QfI(ta:TE)(tr:TA):TA:=fun σ H Q=>ta σ H fun x H1=>tr σ H1 fun xs H2=>Q (x::xs) H2
section
variable {X:Cx}{e:Expr}{es:List Expr}{te:TE}{t:TA}{pos:Pos}
theorem YN:PA X [] QjG:=fun _ _ _ _ H Q I h=>Calls.spliced_nil ⟨[],H,I,.nil,h⟩
theorem Zv(ha:PE X e te)(hr:PA X es t)(hs:starEach (e::es) X.env=(false,eval e X.env)::starEach es X.env:=by rfl):PA X (e::es) (QfI te t):=by
 intro pos pins s σ H Q I h
 rw [hs]
 show wpAny _ _ (spliced ((false,eval e X.env)::backTo pos (starEach es X.env))) _ _ s
 refine Calls.spliced_cons (thn (ha pins s σ H _ I h) fun u s1 ⟨x,H1,I1,r1,q1⟩=>?_)
 exact thn (hr pos pins s1 σ H1 _ I1 q1) fun us s2 ⟨xs,H2,I2,r2,q2⟩=>⟨x::xs,H2,I2,.cons r1 r2,q2⟩
noncomputable def QlK(t:TA):TE:=fun σ H Q=>t σ H fun xs H1=>xs.length<=sizeLine/\∀p,H1 p=none->Q (.ref p) (upd H1 p (.tup xs))
noncomputable def QlP(t:TA):TE:=fun σ H Q=>t σ H fun xs H1=>xs.length<=sizeLine/\∀p,H1 p=none->Q (.ref p) (upd H1 p (.lst xs))
theorem Qh8{x1}(h:PA X es t):PE X (.Tuple es x1 pos) (QlK t):=by
 intro pins s σ H Q I hq
 refine wpAny_Tuple_spliced (thn (h pos pins s σ H _ I hq) fun us s1 ⟨xs,H1,I1,r,z,q⟩=>⟨by rw [<-r.length];exact z,?_⟩)
 have hf:H1 s1.heap.objs.size=none:=I1.hok.fresh (Nat.le_refl _)
 refine⟨.ref s1.heap.objs.size,upd H1 s1.heap.objs.size (.tup xs),I1.laid (t':=s1.toks) (fun b u e=>Heap.get?_push_of_some _ e) (Nat.le_refl _) ?_,rfl,q _ hf⟩
 exact⟨z,us,r,⟨_,Heap.get?_push_size _ rfl,rfl,_,rfl⟩⟩
theorem Qia(h:PA X es t):PE X (.List es pos) (QlP t):=by
 intro pins s σ H Q I hq
 refine wpAny_List_spliced (thn (h pos pins s σ H _ I hq) fun us s1 ⟨xs,H1,I1,r,z,q⟩=>⟨by rw [<-r.length];exact z,?_⟩)
 have hf:H1 s1.heap.objs.size=none:=I1.hok.fresh (Nat.le_refl _)
 refine⟨.ref s1.heap.objs.size,upd H1 s1.heap.objs.size (.lst xs),I1.laid (t':=s1.toks) (fun b u e=>Heap.get?_push_of_some _ e) (Nat.le_refl _) ?_,rfl,q _ hf⟩
 exact⟨z,us,0,r,Heap.get?_push_size _ rfl⟩
end
noncomputable abbrev Sp:=List V->Hp->VK->XK->Prop
noncomputable abbrev CXT:=List Env->Hp->Shared->XK->Value->Shared->Prop
structure Env0(P:Program)(w:World)(K:PySem.W.Frag)(mg:Str->Option Value)(base:Heap)(A:Around)(outer:List Env)(s:Shared)(H:Hp):Prop where
 frames:A.frames=some outer
 mod:Mod K mg base
 bs:∀b o,base.get? b=some o->s.heap.get? b=some o/\H b=none
 bsz:base.objs.size<=s.heap.objs.size
 funs:s.heap.FunFrames base outer
 frf:∀b∈frs outer,H b=none
 hok:HOk P w H s.heap
 bare:AllBare s.gens
noncomputable def CE(outer:List Env)(P:Program)(w:World)(H:Hp)(s:Shared)(Q:VK)(u:Value)(s':Shared):Prop :=
 ∃v H',s'.os=s.os/\AllBare s'.gens/\Un (frs outer) [] H H' s.heap s'.heap/\HOk P w H' s'.heap/\RelV v u/\Q v H'
noncomputable def CR(CX:CXT)(outer:List Env)(P:Program)(w:World)(H:Hp)(s:Shared)(Q:VK)(E:XK)(r:Result)(s':Shared):Prop :=
 match r with
 | .ok (.ret u)=>CE outer P w H s Q u s'
 | .ok _=>False
 | .error e=>CX outer H s E e s'
structure FnOk(P:Program)(w:World)(K:PySem.W.Frag)(mg:Str->Option Value)(base:Heap)(CX:CXT)(k:Nat)(f:Addr)(fd:FuncData)(ps:List Str)(sp:Sp):Prop where
 len:∀vs H Q E,sp vs H Q E->vs.length=ps.length
 run:∀(A:Around) (outer:List Env) (s:Shared) (H:Hp) (args:Args) (us:List Value) (vs:List V) (Q:VK) (E:XK),Room k A->Env0 P w K mg base A outer s H->BindsTo s fd args (ps.zip us)->Vals vs us->sp vs H Q E ->
  codeAny (model P w) A (.call (.ref f) args) (CR CX outer P w H s Q E) s
theorem FnOk.mono{P:Program}{w:World}{K:PySem.W.Frag}{mg:Str->Option Value}{base:Heap}{CX:CXT}{j k:Nat}{f:Addr}{fd:FuncData}{ps:List Str}{sp:Sp}(F:FnOk P w K mg base CX j f fd ps sp)(h:j<=k):
  FnOk P w K mg base CX k f fd ps sp:=⟨F.len,fun A outer s H args us vs Q E hr=>F.run A outer s H args us vs Q E (hr.mono h)⟩
theorem FnOk.imp{P:Program}{w:World}{K:PySem.W.Frag}{mg:Str->Option Value}{base:Heap}{CX:CXT}{k:Nat}{f:Addr}{fd:FuncData}{ps:List Str}{sp sp':Sp}(F:FnOk P w K mg base CX k f fd ps sp)
  (h:∀vs H Q E,sp' vs H Q E->sp vs H Q E):FnOk P w K mg base CX k f fd ps sp' :=
 ⟨fun vs H Q E q=>F.len vs H Q E (h _ _ _ _ q),fun A outer s H args us vs Q E hr he hb hv hs=>F.run A outer s H args us vs Q E hr he hb hv (h _ _ _ _ hs)⟩
theorem Env0.make{P:Program}{w:World}{K:PySem.W.Frag}{mg:Str->Option Value}{base:Heap}{A:Around}{outer:List Env}{s:Shared}{H:Hp}(e:Env0 P w K mg base A outer s H)(C:Addr)(us:List Value)(kw:List (Str×Value)):
  Env0 P w K mg base (A.under (.builtin "type.__call__" ⟨.ref C::us,kw⟩)) outer s H:=⟨by first | exact e.frames | (simpa [Around.under,Code.envs,Code.isFrame,pushEnvs]using e.frames),e.mod,e.bs,e.bsz,e.funs,e.frf,e.hok,e.bare⟩
section
variable {X:Cx}{pins:List (Addr×Obj)}{σ:St}{H:Hp}{s s':Shared}
theorem Inv.env0(I:Inv X pins σ H s):Env0 X.prog X.w X.K X.mg X.base X.A X.stack s H :=
 ⟨I.ok.frames,I.ok.mod,I.bs,Nat.le_trans I.ok.bsz I.sz,I.stack,I.stkFree,I.hok,I.bare⟩
theorem Inv.after{Q:VK}{u:Value}(I:Inv X pins σ H s)(h:CE X.stack X.prog X.w H s Q u s'):EP X pins σ Q u s':=by
 obtain⟨v,H',os,bare,un,hok,r,q⟩:=h
 obtain⟨hh,g,d,t,os'⟩:=s'
 obtain rfl:os'=s.os:=os
 exact⟨v,H',I.call (h':=hh) (g':=g) (d':=d) (t':=t) (ch:=[]) un hok bare (fun b z=>absurd z (by simp)),r,q⟩
end
noncomputable def QdZ(sp:Sp)(dvs:List V)(E:XK)(t:TA):TE:=fun σ H Q=>t σ H fun vs H1=>sp (vs++dvs) H1 Q E
noncomputable def Binds(K:PySem.W.Frag)(fd:FuncData)(ps:List Str)(ds:List Value):Prop :=
 ∀(s:Shared) (us:List Value),K.In s.heap->(us++ds).length=ps.length->BindsTo s fd ⟨us,[]⟩ (ps.zip (us++ds))
theorem Binds.all{K:PySem.W.Frag}{fd:FuncData}{ps:List Str}(h:∀us:List Value,us.length=ps.length->bindArgs fd ⟨us,[]⟩=pure (ps.zip us)):Binds K fd ps []:=fun s us _ hl=>by
 rw [List.append_nil]at hl ⊢
 exact .of_eq (h us hl)
noncomputable def Y3(CX:CXT)(X:Cx)(E:XK):Prop:=∀(pins:List (Addr×Obj)) (σ:St) (H:Hp) (s:Shared) (e:Value) (s':Shared),Inv X pins σ H s->CX X.stack H s E e s'->X.xe e s'
section
variable {X:Cx}{CX:CXT}{k:Nat}{f C:Addr}{fd:FuncData}{ps:List Str}{sp:Sp}{dvs:List V}{ds:List Value}{E:XK}{x m:Str}{p pos apos:Pos}{e o:Expr}{es:List Expr}{ta:TE}{t:TA}
theorem Qe6{pins:List (Addr×Obj)}{σ:St}{H:Hp}{s:Shared}{Q:VK}{us:List Value}{vs:List V}(F:FnOk X.prog X.w X.K X.mg X.base CX k f fd ps sp)(hr:Room k X.A)(hb:Binds X.K fd ps ds)(hd:Vals dvs ds)(hx:Y3 CX X E)
  (I:Inv X pins σ H s) (r:Vals vs us) (h:sp (vs++dvs) H Q E):wpAny (model X.prog X.w) X.A (call (.ref f) us) (EP X pins σ Q) X.xe s:=by
 have r2:Vals (vs++dvs) (us++ds):=r.append hd
 have hl:(us++ds).length=ps.length:=by rw [<-r2.length];exact F.len _ _ _ _ h
 refine wpAny_call (codeAny_mono (F.run X.A X.stack s H ⟨us,[]⟩ (us++ds) (vs++dvs) Q E hr I.env0 (hb s us I.kIn hl) r2 h) fun r s' hq=>?_)
 cases r with
 | error e=>exact hx pins σ H s e s' I hq
 | ok fl =>
  cases fl with
  | ret u=>exact I.after hq
  | next=>exact False.elim hq
  | brk=>exact False.elim hq
  | cont=>exact False.elim hq
theorem Qcr(F:FnOk X.prog X.w X.K X.mg X.base CX k f fd ps sp)(hr:Room k X.A)(hg:Gl X x)(hm:X.mg x=some (.ref f))(hk:PySem.W.keepIn X.K (.ref f)=true)(hb:Binds X.K fd ps ds)(hd:Vals dvs ds)(hx:Y3 CX X E)
  (ha:PA X (e::es) t) (hdb:(x==("__debug__":Str))=false:=by decide) (he:starEach (e::es) X.env=(false,eval e X.env)::starEach es X.env:=by rfl) (hpl:(backTo pos (starEach es X.env)).any (·.1)=false:=by rfl):
  PE X (.Call (.Name x p) (e::es) [] pos) (QdZ sp dvs E t):=by
 intro pins s σ H Q I h
 refine wpAny_Call_Name_kw (Zw I hg hm ?_ hdb)
 refine PySem.W.callWith_K (h₀:=X.base) I.ok.mod.kin hk (thn (ha pos pins s σ H _ I h) fun us s1 ⟨vs,H1,I1,r,q⟩=>⟨I1.kIn,?_⟩) he hpl
 exact Qe6 F hr hb hd hx I1 r q
theorem QaX(F:FnOk X.prog X.w X.K X.mg X.base CX k f fd ps sp)(hr:Room k X.A)(hg:Gl X x)(hm:X.mg x=some (.ref f))(hk:PySem.W.keepIn X.K (.ref f)=true)(hb:Binds X.K fd ps ds)(hd:Vals dvs ds)(hx:Y3 CX X E)
  (hdb:(x==("__debug__":Str))=false:=by decide):PE X (.Call (.Name x p) [] [] pos) (QdZ sp dvs E QjG):=by
 intro pins s σ H Q I h
 refine wpAny_Call_Name_kw (Zw I hg hm ?_ hdb)
 exact PySem.W.callWith_K0 I.kIn hk (Qe6 (us:=[]) F hr hb hd hx I .nil h)
end
section
variable {X:Cx}{CX:CXT}{k:Nat}{f C:Addr}{fd:FuncData}{ps ks:List Str}{sp:Sp}{E:XK}{x m:Str}{p pos apos kpos:Pos}{e o:Expr}{es:List Expr}{kws:List Keyword}{te ta:TE}{t tk:TA}{nm:Option Str}
structure KBinds(K:PySem.W.Frag)(fd:FuncData)(ps ks:List Str)(g:List Value->List Value->List Value)(gV:List V->List V->List V):Prop where
 to:∀(s:Shared) (us ws:List Value),K.In s.heap->(g us ws).length=ps.length->BindsTo s fd ⟨us,ks.zip ws⟩ (ps.zip (g us ws))
 rel:∀{vs:List V} {us:List Value} {zs:List V} {ws:List Value},Vals vs us->Vals zs ws->Vals (gV vs zs) (g us ws)
variable {g:List Value->List Value->List Value}{gV:List V->List V->List V}
end
structure FnScope(N P:List Str)(sc:Scope):Prop where
 kind:sc.kind=.function
 co:sc.isCoroutine=false
 gen:sc.isGenerator=false
 nd:N.Nodup
 pre:N.take P.length=P
 par:∀x∈P,sc.names.lookup x=some .local\/sc.names.lookup x=some .cell
 nofree:∀y∈sc.names,y.2≠.free
theorem JX{kindOf:Str->Option NameKind}{x:Str}:∀{binds:List (Str×Value)} {m:Str->Option Value},(∀v,(x,v)∉binds)->bindL kindOf binds m x=m x
 | [],_,_=>rfl
 | (n,v)::r,m,h=>by
  unfold bindL
  rw [JX fun w hw=>h w (List.mem_cons_of_mem _ hw)]
  split
  ·have:x≠n:=by rintro rfl;exact h v List.mem_cons_self
   simp [this]
  ·rfl
theorem JZ{kindOf:Str->Option NameKind}{x:Str}:∀{binds:List (Str×Value)} {m:Str->Option Value},(∀v,(x,v)∉binds)->bindC kindOf binds m x=m x
 | [],_,_=>rfl
 | (n,v)::r,m,h=>by
  unfold bindC
  rw [JZ fun w hw=>h w (List.mem_cons_of_mem _ hw)]
  split
  ·rfl
  ·have:x≠n:=by rintro rfl;exact h v List.mem_cons_self
   simp [this]
theorem JY{kindOf:Str->Option NameKind}{x:Str}{v:Value}:∀{P:List Str} {vs:List Value} {i:Nat} {m:Str->Option Value},P.Nodup->P[i]?=some x->vs[i]?=some v->kindOf x=some .local ->
  bindL kindOf (P.zip vs) m x=some v
 | [],_,_,_,_,h,_,_=>by simp at h
 | _::_,[],_,_,_,_,h,_=>by simp at h
 | p::P,w::vs,0,m,nd,h1,h2,hk=>by
  simp at h1 h2;subst h1;subst h2
  show bindL kindOf ((p,w)::P.zip vs) m p=_
  unfold bindL
  rw [JX fun v hv=>(List.nodup_cons.mp nd).1 (List.of_mem_zip hv).1,if_pos hk]
  simp
 | p::P,w::vs,i+1,m,nd,h1,h2,hk=>by
  show bindL kindOf ((p,w)::P.zip vs) m x=_
  unfold bindL
  exact JY (i:=i) (List.nodup_cons.mp nd).2 (by simpa using h1) (by simpa using h2) hk
theorem J0{kindOf:Str->Option NameKind}{x:Str}{v:Value}:∀{P:List Str} {vs:List Value} {i:Nat} {m:Str->Option Value},P.Nodup->P[i]?=some x->vs[i]?=some v->kindOf x≠some .local ->
  bindC kindOf (P.zip vs) m x=some v
 | [],_,_,_,_,h,_,_=>by simp at h
 | _::_,[],_,_,_,_,h,_=>by simp at h
 | p::P,w::vs,0,m,nd,h1,h2,hk=>by
  simp at h1 h2;subst h1;subst h2
  show bindC kindOf ((p,w)::P.zip vs) m p=_
  unfold bindC
  rw [JZ fun v hv=>(List.nodup_cons.mp nd).1 (List.of_mem_zip hv).1,if_neg hk]
  simp
 | p::P,w::vs,i+1,m,nd,h1,h2,hk=>by
  show bindC kindOf ((p,w)::P.zip vs) m x=_
  unfold bindC
  exact J0 (i:=i) (List.nodup_cons.mp nd).2 (by simpa using h1) (by simpa using h2) hk
noncomputable def start(N:List Str)(vs:List V):St:=vs.map some++List.replicate (N.length-vs.length) none
noncomputable def QbK(CX:CXT)(P:Program)(w:World)(K:PySem.W.Frag)(mg:Str->Option Value)(base:Heap)(N:List Str)(qual:Str)(scope:Scope)(f:Addr)(cd:Value)(A:Around)(outer:List Env)(s:Shared)(H:Hp)(E:XK):Cx where
 prog:=P
 w:=w
 K:=K
 mg:=mg
 base:=base
 A:=A.deeper (envOfC qual scope s.heap.objs.size f cd)
 N:=N
 s₀:=s
 H₀:=H
 env:=envOfC qual scope s.heap.objs.size f cd
 outer:=outer
 stack:=envOfC qual scope s.heap.objs.size f cd::outer
 ex:=[]
 calm:=true
 fn:=fun _=>true
 pn:=[]
 xe:=fun e s'=>wpAny (model P w) (A.deeper (envOfC qual scope s.heap.objs.size f cd)) (leaving (envOfC qual scope s.heap.objs.size f cd) e) (fun _ s''=>CX outer H s E e s'') (fun e' s''=>CX outer H s E e' s'') s'
theorem Qbg{sc:Scope}{n:Nat}{x:Str}(h:sc.names.lookup x=some .cell):∃c,(cellsFrom n sc.names []).lookup x=some c:=by
 have q:=PySem.W.cellsFrom_some sc.names n [] (.inl h)
 exact Option.isSome_iff_exists.mp q
theorem QcS{CX:CXT}{P:Program}{w:World}{K:PySem.W.Frag}{mg:Str->Option Value}{base:Heap}{N ps:List Str}{qual:Str}{scope:Scope}{f:Addr}{cd:Value}{A:Around}{outer:List Env}{s s1:Shared}{H:Hp}{E:XK}{us:List Value}{vs:List V}
  (S:FnScope N ps scope) (hd:A.handled=none) (e0:Env0 P w K mg base A outer s H) (hl:vs.length=ps.length) (r:Vals vs us)
  (x:InCallC s s.heap.objs.size (bindL (envOfC qual scope s.heap.objs.size f cd).kindOf (ps.zip us) fun _=>none) (cellsFrom (s.heap.objs.size+1) scope.names []) (bindC (envOfC qual scope s.heap.objs.size f cd).kindOf (ps.zip us) fun _=>none) s1):
  Inv (QbK CX P w K mg base N qual scope f cd A outer s H E) [] (start N vs) H s1:=by
 have hpl:ps.length<=N.length:=by have:=congrArg List.length S.pre;rw [List.length_take]at this;lia
 obtain⟨h1,tk,rfl,hk⟩:=x.done
 have noA:∀b:Addr,b∉(QbK CX P w K mg base N qual scope f cd A outer s H E).ex:=fun b z=>absurd (show b∈([]:List Addr)from z) (by simp)
 refine⟨⟨e0.mod,S.kind,rfl,rfl,Nat.le_refl _,fun y z c h1 h2=>?_,fun y hy=>?_,fun y c _ h=>?_,fun _=>hd,Around.frames_deeper e0.frames,.inr ⟨rfl,rfl⟩,fun b z=>absurd z (noA b),e0.bs,e0.bsz,fun b _ _=>noA b,fun b z=>absurd z (noA b),e0.funs,e0.frf⟩,
  rfl,e0.bare,Un.kept hk,⟨_,x.toInCall.ns,fun i y v h1 h2 h3=>?_⟩,fun y c h=>⟨_,x.cell y c h⟩,e0.hok.fresh (Nat.le_refl _),fun y c h=>?_,fun p hp=>absurd (show p∈([]:List (Addr×Obj))from hp) (by simp),e0.hok.kept hk,?_⟩
 ·exact name_of_addr x.apart (PySem.mem_of_lookup h1) (PySem.mem_of_lookup h2)
 ·have hy:scope.names.lookup y=some .cell\/scope.names.lookup y=some .free:=hy
  rcases hy with hy | hy
  ·exact Qbg hy
  ·exact absurd rfl (S.nofree _ (PySem.mem_of_lookup hy))
 ·exact Nat.le_of_lt (x.above y c (PySem.mem_of_lookup h))
 ·have hi:i<vs.length:=by
   unfold start at h2
   by_cases hi:i<vs.length
   ·exact hi
   ·rw [List.getElem?_append_right (by simpa using hi)]at h2
    rw [List.getElem?_replicate]at h2
    split at h2<;>cases h2
  have ha:vs[i]?=some v:=by
   unfold start at h2
   rw [List.getElem?_append_left (by simpa using hi),List.getElem?_map]at h2
   cases e:vs[i]? with
   | none=>rw [e]at h2;cases h2
   | some a=>rw [e]at h2;cases h2;rfl
  obtain⟨u,hu,rv⟩:=r.get ha
  have hp:ps[i]?=some y:=by
   rw [<-S.pre,List.getElem?_take_of_lt (by lia)];exact h1
  have ndP:ps.Nodup:=by rw [<-S.pre];exact S.nd.sublist (List.take_sublist _ _)
  refine⟨u,rv,?_⟩
  rcases S.par y (List.mem_of_getElem? hp)with k | k
  ·exact .inl ⟨k,JY ndP hp hu k⟩
  ·obtain⟨c,e⟩:=Qbg (n:=s.heap.objs.size+1) k
   refine .inr ⟨.inl k,c,e,?_⟩
   have q:=x.cell y c e
   rw [J0 ndP hp hu (by show scope.names.lookup y≠_;rw [k];decide)]at q
   exact q
 ·exact e0.hok.fresh (Nat.le_of_lt (x.above y c (PySem.mem_of_lookup h)))
 ·unfold start
  show _=N.length
  rw [List.length_append,List.length_map,List.length_replicate]
  lia
theorem QgK{CX:CXT}{P:Program}{w:World}{K:PySem.W.Frag}{mg:Str->Option Value}{base:Heap}{k:Nat}{f:Addr}{name qual:Str}{params:Arguments}{body:List Stmt}{scope:Scope}{dV kV doc pm cdv ct oc:Value}{an od:Option Addr}
  {osl:Array (Option Value)} {N ps:List Str} {sp:Sp} (lk:K.lookup f=some ⟨oc,od,.func (PySem.W.fnOf name qual params body scope dV kV doc pm an cdv ct),osl⟩) (hcd:PySem.W.codeIn K cdv qual=true) (S:FnScope N ps scope)
  (len:∀vs H Q E,sp vs H Q E->vs.length=ps.length)
  (hbody:∀(A:Around) (outer:List Env) (s:Shared) (H:Hp) (vs:List V) (Q:VK) (E:XK),Room k (A.deeper (envOfC qual scope s.heap.objs.size f cdv))->sp vs H Q E ->
   ∃t,PSs (QbK CX P w K mg base N qual scope f cdv A outer s H E) body t/\t { nx:=fun _ H'=>Q .non H',rt:=Q } (start N vs) H):
  FnOk P w K mg base CX (k+1) f (PySem.W.fnOf name qual params body scope dV kV doc pm an cdv ct) ps sp:=by
 refine⟨len,fun A outer s H args us vs Q E hr e0 hb r hsp=>?_⟩
 have hl:=len _ _ _ _ hsp
 have KX:K.In s.heap:=e0.mod.kin.keeps fun b o e=>(e0.bs b o e).1
 have lim:s.heap.NoLimit:=e0.mod.nolimit.keeps fun b o e=>(e0.bs b o e).1
 have hkind:∀y∈ps.zip us,scope.names.lookup y.1=some .local\/(scope.names.lookup y.1=some .cell/\((cellsFrom (s.heap.objs.size+1) scope.names []).lookup y.1).isSome=true):=fun⟨n,v⟩ hy=>by
  rcases S.par n (List.of_mem_zip hy).1 with q | q
  ·exact .inl q
  ·exact .inr ⟨q,PySem.W.cellsFrom_some _ _ _ (.inl q)⟩
 refine codeAny_call_function hr.depth (KX _ _ lk) rfl S.co S.gen rfl (PySem.W.codeRec_of KX hcd) (hb _ _ _ _ ?_)
 refine wpAny_newFunctionEnv_cells S.kind hkind fun env he s1 x=>?_
 subst he
 refine⟨lim.keeps x.toInCall.keep,codeAny_func ?_⟩
 obtain⟨t,ht,hq⟩:=hbody A outer s H vs Q E (hr.deeper _) hsp
 have I:Inv (QbK CX P w K mg base N qual scope f cdv A outer s H E) [] (start N vs) H s1:=QcS S hr.hd e0 hl r x
 refine wpAny_mono (ht [] s1 (start N vs) H _ I hq) (fun fl s' hs=>?_) fun e s' hs=>hs
 have fin:∀{σ':St} {H':Hp} {v:V} {u:Value},Inv (QbK CX P w K mg base N qual scope f cdv A outer s H E) [] σ' H' s'->RelV v u->Q v H'->CE outer P w H s Q u s' :=
  fun {σ' H' v u} J rv q=>⟨v,H',J.os,J.bare,J.base,J.hok,rv,q⟩
 cases fl with
 | ret u =>
  obtain⟨v,σ',H',J,rv,q⟩:=hs
  exact fin J rv q
 | next =>
  obtain⟨σ',H',J,q⟩:=hs
  exact fin (v:=V.non) (u:=Value.none) J rfl q
 | brk =>
  obtain⟨_,_,_,q⟩:=hs
  exact False.elim q
 | cont =>
  obtain⟨_,_,_,q⟩:=hs
  exact False.elim q
end L2
namespace L2
open PySem PySem.Spec PyProof.Rows
section
variable {X:Cx}{x:Str}{p pos:Pos}{e:Expr}{es:List Expr}{t:TA}{id T:String}{r:List V->Hp->VK->Prop}
noncomputable def tCB(r:List V->Hp->VK->Prop)(t:TA):TE:=fun σ H Q=>t σ H fun vs H1=>r vs H1 Q
theorem Yk(hc:CallR X (.builtin id) r)(hg:Gl X x)(hm:X.mg x=none)(hv:bootBuiltins x=some (.builtin id))(ha:PA X (e::es) t)(hn:x≠"__name__":=by decide) (hdb:(x==("__debug__":Str))=false:=by decide)
  (he:starEach (e::es) X.env=(false,eval e X.env)::starEach es X.env:=by rfl) (hpl:(backTo pos (starEach es X.env)).any (·.1)=false:=by rfl):PE X (.Call (.Name x p) (e::es) [] pos) (tCB r t):=by
 intro pins s σ H Q I h
 refine wpAny_Call_Name_kw (ZX I hg hm hv ?_ hn hdb)
 exact PyProof.Rows.callWith_builtin1 (thn (ha pos pins s σ H _ I h) fun us s1 ⟨vs,H1,I1,r1,q1⟩=>hc pins s1 σ H1 vs us Q I1 r1 q1) he hpl
theorem Jw(hc:CallR X (.type T) r)(hg:Gl X x)(hm:X.mg x=none)(hv:bootBuiltins x=some (.type T))(ha:PA X (e::es) t)(hn:x≠"__name__":=by decide) (hdb:(x==("__debug__":Str))=false:=by decide)
  (he:starEach (e::es) X.env=(false,eval e X.env)::starEach es X.env:=by rfl) (hpl:(backTo pos (starEach es X.env)).any (·.1)=false:=by rfl):PE X (.Call (.Name x p) (e::es) [] pos) (tCB r t):=by
 intro pins s σ H Q I h
 refine wpAny_Call_Name_kw (ZX I hg hm hv ?_ hn hdb)
 exact PyProof.Rows.callWith_type1 (thn (ha pos pins s σ H _ I h) fun us s1 ⟨vs,H1,I1,r1,q1⟩=>hc pins s1 σ H1 vs us Q I1 r1 q1) he hpl
end
end L2
namespace HT
open PySem PyProof.Rows
section
open PySem.SeqAt
open PySem.AutoSeq1 (wpAny_loadPart')
open PySem.MeetsSeq PySem.MeetsSeq2 PySem.MeetsSeq3
end
section
variable {prog:Program}{w:World}{A:Around}{E:Value->Shared->Prop}{s:Shared}
theorem cat_tup{t b:Addr}{vs ws:List Value}{Q:Value->Shared->Prop}(ht:IsTup s.heap t vs.toArray)(hb:IsTup s.heap b ws.toArray)(hv:vs≠[])
  (h1:ws=[]->Q (.ref t) s) (h2:ws≠[]->Q (.ref s.heap.objs.size) { s with heap:=s.heap.push { cls:=.type "tuple",data:=.seq (vs++ws).toArray } })
  (hsz:vs.length+ws.length<=sizeLine):wpAny (model prog w) A (binaryOp .Add (.ref t) (.ref b)) Q E s:=by
 obtain⟨⟨cls,dd,data,sl⟩,ho,hc,n,hd⟩:=id ht
 obtain⟨⟨cls2,dd2,data2,sl2⟩,ho2,hc2,n2,hd2⟩:=id hb
 simp only at hc hd hc2 hd2
 subst hc hd hc2 hd2
 have e:vs.toArray++ws.toArray=(vs++ws).toArray:=by simp
 by_cases hw:ws=[]
 ·exact concat_meets ⟨_,ho,rfl⟩ ⟨_,ho2,rfl⟩ noFill_tuple_add seq_tuple_add PySem.F.slot_tuple_add PySem.F.entry_tuple_add (PySem.F.args_tuple_add_2 _ _)
   (tuple_addW1 t b vs.toArray ws.toArray n n2 dd dd2 sl sl2 (by simpa using hv) (by simp [hw])) ⟨ho,ho2,h1 hw⟩
 ·refine concat_meets ⟨_,ho,rfl⟩ ⟨_,ho2,rfl⟩ noFill_tuple_add seq_tuple_add PySem.F.slot_tuple_add PySem.F.entry_tuple_add (PySem.F.args_tuple_add_2 _ _)
   (tuple_addW2 t b vs.toArray ws.toArray n n2 dd dd2 sl sl2 (by simpa using hv) (by simpa using hw) (by rw [List.size_toArray,List.size_toArray];exact hsz)) ⟨ho,ho2,?_⟩
  rw [e]
  exact h2 hw
noncomputable def sIx(n d:Nat):Option Int->Nat
 | none=>d
 | some v=>if v<0 then(v+(n:Int)).toNat else min v.toNat n
theorem sIx_le(n d:Nat)(hd:d<=n)(o:Option Int):sIx n d o<=n:=by
 cases o with
 | none=>exact hd
 | some v =>
  show(if v<0 then(v+(n:Int)).toNat else min v.toNat n)<=n
  by_cases hv:v<0
  ·rw [if_pos hv];lia
  ·rw [if_neg hv];exact Nat.min_le_right _ _
theorem clip_eq(v:Int)(n d:Nat):(if v<0 then max (v+(n:Int)) 0 else min v (n:Int))=((sIx n d (some v):Nat):Int):=by
 show(if v<0 then max (v+(n:Int)) 0 else min v (n:Int))=(((if v<0 then(v+(n:Int)).toNat else min v.toNat n):Nat):Int)
 by_cases hv:v<0
 ·simp only [if_pos hv];lia
 ·simp only [if_neg hv];lia
theorem QbJ(lo hi:Option Int)(n:Nat):Builtin.Slice.sliceAdjust lo hi 1 (n:Int)=(((sIx n 0 lo:Nat):Int),((sIx n n hi:Nat):Int)):=by
 have h1:¬((1:Int) < 0):=by lia
 unfold Builtin.Slice.sliceAdjust
 simp only [h1,if_false]
 refine Prod.ext ?_ ?_
 ·cases lo with
  | none=>rfl
  | some v=>exact clip_eq v n 0
 ·cases hi with
  | none=>rfl
  | some v=>exact clip_eq v n n
theorem Qbp(i j:Nat):Builtin.Slice.slicePlaces (i:Int) (j:Int) 1=j-i:=by
 unfold Builtin.Slice.slicePlaces
 have h1:(1:Int) > 0:=by lia
 simp only [h1,if_true,Int.ediv_one]
 split<;>lia
theorem YK{v:Value}{o:Option Int}{Q:Option Int->Shared->Prop}(p:IsPart v o)(h:Q o s):wpAny (model prog w) A (Builtin.Slice.slicePartIndex v) Q E s:=by
 cases p with
 | none=>exact slicePart_none h
 | int i t=>exact slicePart_int h
theorem Ye{sl:Addr}{vl vu:Value}{lo hi:Option Int}{n:Nat}{Q:Int×Int×Nat->Shared->Prop}(hs:s.heap.IsSliceOf sl vl vu .none)(pl:IsPart vl lo)(pu:IsPart vu hi)
  (h:Q (((sIx n 0 lo:Nat):Int),1,sIx n n hi-sIx n 0 lo) s):wpAny (model prog w) A (Builtin.Slice.sliceApplied (.ref sl) (pure (n:Int))) Q E s:=by
 obtain⟨os,hos,hcs,hds⟩:=id hs
 unfold Builtin.Slice.sliceApplied Builtin.Slice.sliceFields
 refine wpAny_bind (wpAny_bind (wpAny_field hos hds (x:=vl) rfl (wpAny_bind (wpAny_field hos hds (x:=vu) rfl (wpAny_bind (wpAny_field hos hds (x:=.none) rfl (wpAny_pure ?_)))))))
 refine wpAny_bind (slicePart_none ?_)
 show wpAny _ _ (if((1:Int)==0)=true then _ else _) _ _ s
 rw [if_neg (by decide)]
 refine wpAny_bind (YK pl (wpAny_bind (YK pu (wpAny_bind (wpAny_pure ?_)))))
 show wpAny _ _ (match Builtin.Slice.sliceAdjust lo hi 1 (n:Int)with | (lo,hi)=>pure (lo,(1:Int),Builtin.Slice.slicePlaces lo hi 1)) _ _ s
 rw [QbJ lo hi n]
 show wpAny _ _ (pure (((sIx n 0 lo:Nat):Int),(1:Int),Builtin.Slice.slicePlaces ((sIx n 0 lo:Nat):Int) ((sIx n n hi:Nat):Int) 1)) _ _ s
 rw [Qbp]
 exact wpAny_pure h
theorem Qee(xs:Array Value)(i k:Nat):((List.range k).filterMap fun(m:Nat)=>xs[((i:Int)+(m:Int)*1).toNat]?).toArray=((xs.toList.drop i).take k).toArray:=by
 have e:(fun(m:Nat)=>xs[((i:Int)+(m:Int)*1).toNat]?)=fun m=>xs[i+m]?:=by
  funext m
  have:((i:Int)+(m:Int)*1).toNat=i+m:=by lia
  rw [this]
 rw [e]
 have:=pick_run xs i k
 rw [List.filterMap_map]at this
 have e2:((fun x=>xs[x]?)∘fun x=>i+x)=fun m=>xs[i+m]?:=rfl
 rw [e2]at this
 rw [this]
theorem getItem_tuple_cut{t sl:Addr}{items:Array Value}{vl vu:Value}{lo hi:Option Int}{Q:Value->Shared->Prop}(ht:IsTup s.heap t items)(hs:s.heap.IsSliceOf sl vl vu .none)(pl:IsPart vl lo)(pu:IsPart vu hi)
  (hw:¬(sIx items.size 0 lo=0/\sIx items.size items.size hi=items.size))
  (h:Q (.ref s.heap.objs.size) { s with heap:=s.heap.push { cls:=.type "tuple",data:=.seq ((items.toList.drop (sIx items.size 0 lo)).take (sIx items.size items.size hi-sIx items.size 0 lo)).toArray } })
  (hsz:items.size<=sizeLine):wpAny (model prog w) A (getItem (.ref t) (.ref sl)) Q E s:=by
 have htake:sizeOk (.seq ((items.toList.drop (sIx items.size 0 lo)).take (sIx items.size items.size hi-sIx items.size 0 lo)).toArray):=by
  show((items.toList.drop (sIx items.size 0 lo)).take (sIx items.size items.size hi-sIx items.size 0 lo)).toArray.size<=sizeLine
  rw [List.size_toArray,List.length_take,List.length_drop,Array.length_toList]
  lia
 have hj:sIx items.size items.size hi<=items.size:=sIx_le _ _ (Nat.le_refl _) hi
 obtain⟨os,hos,hcs,hds⟩:=id hs
 have hTs:s.TypeIs (.ref sl) "slice":=⟨os,hos,hcs⟩
 unfold getItem
 try with_reducible refine wpAny_holding ?_
 first | refine wpAny_bind (wpAny_pure ?_) | skip
 refine wpAny_bind (wpAny_sequenceKey ht.typeIs (by decide) ?_)
 refine wpAny_bind (wpAny_callSpecial?_slot (name:=Str.ofString "__getitem__") ht.typeIs PyProof.Rows.slot_tuple_getitem
  (wpAny_call_entry PyProof.Rows.slot_tuple_getitem ht.typeIs entry_tuple_getitem ?_ (args_tuple_getitem _ _)))
 show wpAny _ _ (Builtin.Tuple.tupleItemsOf (.ref t) >>= _) _ _ s
 refine wpAny_bind (tupleItemsOf_ ht ?_)
 refine wpAny_bind (wpAny_typeOf hTs ?_)
 rw [if_pos (by decide)]
 refine wpAny_bind (Ye hs pl pu ?_)
 have hno:¬((((sIx items.size 0 lo:Nat):Int)==0&&(1:Int)==1&&(sIx items.size items.size hi-sIx items.size 0 lo)==items.size)=true):=by
  intro q
  rw [Bool.and_eq_true,Bool.and_eq_true]at q
  have q1:((sIx items.size 0 lo:Nat):Int)=0:=eq_of_beq q.1.1
  have q2:sIx items.size items.size hi-sIx items.size 0 lo=items.size:=eq_of_beq q.2
  exact hw ⟨by lia,by lia⟩
 show wpAny _ _ (if(((sIx items.size 0 lo:Nat):Int)==0&&(1:Int)==1&&(sIx items.size items.size hi-sIx items.size 0 lo)==items.size)=true then _ else _) _ _ s
 rw [if_neg hno,Qee]
 first
  | exact wpAny_bind (m:=Builtin.Tuple.tupleExact _) (wpAny_newObj_type (wpAny_pure ⟨_,rfl,wpAny_pure h⟩) htake)
  | exact wpAny_bind (m:=Builtin.Tuple.tupleExact _) (wpAny_newObj_type (wpAny_bind (wpAny_pure (wpAny_pure ⟨_,rfl,wpAny_pure h⟩))) htake)
  | exact wpAny_bind (wpAny_bind (m:=Builtin.Tuple.tupleExact _) (wpAny_newObj_type (wpAny_pure (wpAny_pure ⟨_,rfl,wpAny_pure h⟩)) htake))
  | exact wpAny_bind (wpAny_bind (m:=Builtin.Tuple.tupleExact _) (wpAny_newObj_type (wpAny_pure ⟨_,rfl,wpAny_pure h⟩) htake))
end
end HT
namespace L2
open PySem PySem.Spec PyProof.Rows
noncomputable abbrev TO:=St->Hp->(Option Int->Hp->Prop)->Prop
noncomputable def PO(X:Cx)(e:Option Expr)(t:TO):Prop :=
 ∀(pins:List (Addr×Obj)) (s:Shared) (σ:St) (H:Hp) (Q:Option Int->Hp->Prop),Inv X pins σ H s->t σ H Q ->
  wpAny (model X.prog X.w) X.A (evalPart e X.env) (fun u s'=>∃o H',Inv X pins σ H' s'/\IsPart u o/\Q o H') X.xe s
noncomputable def QfG:TO:=fun _ H Q=>Q none H
noncomputable def Qht(t:TE):TO:=fun σ H Q=>t σ H fun x H1=>∃i,x=.int i/\Q (some i) H1
section
variable {X:Cx}{e:Expr}{te:TE}{lo hi:Option Expr}{tl th:TO}{pos p2:Pos}
theorem Qf5:PO X none QfG:=by
 intro pins s σ H Q I h
 rw [evalPart_none]
 exact wpAny_pure ⟨none,H,I,.none,h⟩
theorem Qch(h:PE X e te):PO X (some e) (Qht te):=by
 intro pins s σ H Q I hw
 rw [evalPart_some]
 refine thn (h pins s σ H _ I hw) fun u s1 ⟨x,H1,I1,r1,q1⟩=>?_
 obtain⟨i,rfl,q⟩:=q1
 obtain⟨t,rfl⟩:=r1
 exact⟨some i,H1,I1,.int i t,q⟩
noncomputable def SlR(X:Cx)(r:V->Option Int->Option Int->Hp->VK->Prop):Prop :=
 ∀(pins:List (Addr×Obj)) (s:Shared) (σ:St) (H:Hp) (x:V) (v vl vu:Value) (lo hi:Option Int) (sl:Addr) (Q:VK),Inv X pins σ H s->RelV x v->s.heap.IsSliceOf sl vl vu .none->IsPart vl lo->IsPart vu hi->r x lo hi H Q ->
  ∃ T id, typeLookup (.type T) "__getitem__" = pure (some (.builtin id)) /\ s.TypeIs v T /\ wpAny (model X.prog X.w) X.A (getItem v (.ref sl)) (EP X pins σ Q) X.xe s
theorem SlR.or{r r':V->Option Int->Option Int->Hp->VK->Prop}(h:SlR X r)(h':SlR X r'):SlR X (fun x lo hi H Q=>r x lo hi H Q\/r' x lo hi H Q):=by
 intro pins s σ H x v vl vu lo hi sl Q I rx hs pl pu q
 rcases q with q | q
 ·exact h pins s σ H x v vl vu lo hi sl Q I rx hs pl pu q
 ·exact h' pins s σ H x v vl vu lo hi sl Q I rx hs pl pu q
noncomputable def tSl(r:V->Option Int->Option Int->Hp->VK->Prop)(te:TE)(tl th:TO):TE:=fun σ H Q=>te σ H fun x H1=>tl σ H1 fun l H2=>th σ H2 fun u H3=>r x l u H3 Q
theorem Qeg{r:V->Option Int->Option Int->Hp->VK->Prop}(hr:SlR X r)(he:PE X e te)(hl:PO X lo tl)(hu:PO X hi th):PE X (.Subscript e (.Slice lo hi none p2) pos) (tSl r te tl th):=by
 intro pins s σ H Q I h
 refine Subscript_ (thn (he pins s σ H _ I h) fun v s1 ⟨x,H1,I1,r1,q1⟩=>?_)
 refine wpAny_Slice (thn (hl pins s1 σ H1 _ I1 q1) fun vl s2 ⟨l,H2,I2,pl,q2⟩=>thn (hu pins s2 σ H2 _ I2 q2) fun vu s3 ⟨u,H3,I3,pu,q3⟩=>?_)
 rw [evalPart_none]
 refine wpAny_pure ?_
 have I4:Inv X pins σ H3 { s3 with heap:=s3.heap.push { cls:=.type "slice",data:=.fields #[vl,vu,.none] } }:=I3.kept (t':=s3.toks) fun b ob q=>Heap.get?_push_of_some _ q
 obtain⟨T,id,hT,ht,hg⟩:=hr pins { s3 with heap:=s3.heap.push { cls:=.type "slice",data:=.fields #[vl,vu,.none] } } σ H3 x v vl vu l u s3.heap.objs.size Q I4 r1 (Heap.IsSliceOf.new ..) pl pu q3
 show wpAny (model X.prog X.w) X.A (subscriptTail e (.Slice lo hi none p2) v (.ref s3.heap.objs.size)) (EP X pins σ Q) X.xe { s3 with heap:=s3.heap.push { cls:=.type "slice",data:=.fields #[vl,vu,.none] } }
 exact tail_any (ops:=[.ref s3.heap.objs.size,v]) ht hT hg (by with_unfolding_all rfl)
noncomputable def Qfs(xs:List V)(lo hi:Option Int):List V:=(xs.drop (HT.sIx xs.length 0 lo)).take (HT.sIx xs.length xs.length hi-HT.sIx xs.length 0 lo)
theorem YA(xs:List V)(lo hi:Option Int):(Qfs xs lo hi).length<=xs.length:=by
 unfold Qfs
 rw [List.length_take,List.length_drop]
 lia
noncomputable def Qlc(K:PySem.W.Frag):V->Option Int->Option Int->Hp->VK->Prop:=fun x lo hi H Q=>∃a xs,x=.ref a/\SqT K H a xs /\
 ¬(HT.sIx xs.length 0 lo=0/\HT.sIx xs.length xs.length hi=xs.length)/\∀p,H p=none->Q (.ref p) (upd H p (.tup (Qfs xs lo hi)))
theorem sl_tup:SlR X (Qlc X.K):=by
 intro pins s σ H x v vl vu lo hi sl Q I rx hs pl pu h
 obtain⟨a,xs,rfl,hx,hw,q⟩:=h
 cases rx
 obtain⟨its,r,ht,hz⟩:=I.tuple hx
 have hlen:its.toArray.size=xs.length:=by rw [List.size_toArray];exact r.length.symm
 refine⟨"tuple",_,PyProof.Rows.slot_tuple_getitem.lookup,ht.typeIs,?_⟩
 refine HT.getItem_tuple_cut ht hs pl pu (by rw [hlen];exact hw) ?_ (by rw [hlen];exact hz)
 rw [hlen]
 refine⟨.ref s.heap.objs.size,_,I.laid (t':=s.toks) (o:=.tup (Qfs xs lo hi)) (fun b ob q=>Heap.get?_push_of_some _ q) (Nat.le_refl _) ?_,rfl,q _ (I.hok.fresh (Nat.le_refl _))⟩
 exact⟨Nat.le_trans (YA xs lo hi) hz,_,(r.drop (HT.sIx xs.length 0 lo)).take (HT.sIx xs.length xs.length hi-HT.sIx xs.length 0 lo),IsTup.new _ _⟩
noncomputable def Qkb(K:PySem.W.Frag):R2:=fun x y H Q=>∃a b xs ys,x=.ref a/\y=.ref b/\SqT K H a xs/\SqT K H b ys/\xs≠[]/\xs.length+ys.length<=sizeLine /\
 (ys=[]->Q (.ref a) H)/\(ys≠[]->∀p,H p=none->Q (.ref p) (upd H p (.tup (xs++ys))))
theorem Vals.nil_iff{xs:List V}{us:List Value}(r:Vals xs us):us=[]↔xs=[]:=by
 cases r with
 | nil=>simp
 | cons _ _=>simp
theorem Qgj:OpR X (binaryOp .Add) (Qkb X.K):=by
 intro pins s σ H x y v u Q I rx ry h
 obtain⟨a,b,xs,ys,rfl,rfl,ha,hb,hx,hz,q1,q2⟩:=h
 cases rx
 cases ry
 obtain⟨its,r1,p1,_⟩:=I.tuple ha
 obtain⟨its2,r2,p2,_⟩:=I.tuple hb
 refine HT.cat_tup p1 p2 (fun z=>hx (r1.nil_iff.mp z)) (fun z=>⟨.ref a,H,I,rfl,q1 (r2.nil_iff.mp z)⟩) (fun z=>?_) (by rw [<-r1.length,<-r2.length];exact hz)
 refine⟨.ref s.heap.objs.size,_,I.laid (t':=s.toks) (o:=.tup (xs++ys)) (fun b ob q=>Heap.get?_push_of_some _ q) (Nat.le_refl _) ?_,rfl,q2 (fun w=>z (r2.nil_iff.mpr w)) _ (I.hok.fresh (Nat.le_refl _))⟩
 exact⟨by rw [List.length_append];exact hz,_,r1.append r2,IsTup.new _ _⟩
end
end L2
namespace L2
open PySem PySem.Spec PyProof.Rows
noncomputable def ixN(n:Nat)(i:Int):Option Nat:=if 0<=i then(if i<n then some i.toNat else none)else if -(n:Int)<=i then some (i+n).toNat else none
noncomputable def atI{α:Type}(xs:List α)(i:Int):Option α:=(ixN xs.length i).bind fun j=>xs[j]?
theorem Qgz{n:Nat}{i:Int}{j:Nat}(h:ixN n i=some j):seqIndex? i n=some j/\j<n/\-(n:Int)<=i/\i<n:=by
 unfold ixN at h
 by_cases h0:0<=i
 ·rw [if_pos h0]at h
  by_cases h1:i<n
  ·rw [if_pos h1]at h
   have e:i.toNat=j:=Option.some.inj h
   exact⟨by rw [seqIndex_of h0 h1,e],by lia,by lia,h1⟩
  ·rw [if_neg h1]at h;cases h
 ·rw [if_neg h0]at h
  by_cases h1:-(n:Int)<=i
  ·rw [if_pos h1]at h
   have e:(i+n).toNat=j:=Option.some.inj h
   exact⟨by rw [seqIndex_neg (by lia) h1,e],by lia,h1,by lia⟩
  ·rw [if_neg h1]at h;cases h
theorem QaE{α:Type}{xs:List α}{i:Int}{v:α}(h:atI xs i=some v):∃j,seqIndex? i xs.length=some j/\xs[j]?=some v/\j<xs.length/\-(xs.length:Int)<=i/\i<xs.length:=by
 unfold atI at h
 cases e:ixN xs.length i with
 | none=>rw [e]at h;cases h
 | some j =>
  rw [e]at h
  obtain⟨h1,h2,h3,h4⟩:=Qgz e
  exact⟨j,h1,h,h2,h3,h4⟩
noncomputable def QdB(b:Expr):Prop:=∀o i,subscripted b false o i=operate [o,i] (getItem o i)
noncomputable def IxR(X:Cx)(r:R2):Prop :=
 ∀(value slice:Expr) (pins:List (Addr×Obj)) (s:Shared) (σ:St) (H:Hp) (x y:V) (v u:Value) (Q:VK),Inv X pins σ H s->RelV x v->RelV y u->r x y H Q ->
  subscripted slice false v u=operate [v,u] (getItem v u)->wpAny (model X.prog X.w) X.A (subscriptTail value slice v u) (EP X pins σ Q) X.xe s
noncomputable def MtR(X:Cx)(id:String)(r:V->List V->Hp->VK->Prop):Prop :=
 ∀(pins:List (Addr×Obj)) (s:Shared) (σ:St) (H:Hp) (x:V) (xs:List V) (v:Value) (us:List Value) (Q:VK),Inv X pins σ H s->RelV x v->Vals xs us->r x xs H Q ->
  wpAny (model X.prog X.w) X.A (call (.builtin id) (v::us)) (EP X pins σ Q) X.xe s
section
variable {X:Cx}{a b:Expr}{ta tb:TE}{pos:Pos}
theorem IxR.or{r r':R2}(h:IxR X r)(h':IxR X r'):IxR X (fun x y H Q=>r x y H Q\/r' x y H Q):=by
 intro value slice pins s σ H x y v u Q I rx ry q hs
 rcases q with q | q
 ·exact h value slice pins s σ H x y v u Q I rx ry q hs
 ·exact h' value slice pins s σ H x y v u Q I rx ry q hs
theorem Qkg{r:R2}(hr:IxR X r)(ha:PE X a ta)(hb:PE X b tb)(hs:QdB b):PE X (.Subscript a b pos) (tOp r ta tb):=by
 intro pins s σ H Q I h
 exact Subscript_ (QkW ha hb I h fun v u s2 x y H2 I2 rx ry q=>hr a b pins s2 σ H2 x y v u Q I2 rx ry q (hs _ _))
noncomputable def Qli(K:PySem.W.Frag):R2:=fun x y H Q=>∃p xs i v,x=.ref p/\y=.int i/\SqL K H p xs/\atI xs i=some v/\Q v H
noncomputable def Qlg(K:PySem.W.Frag):R2:=fun x y H Q=>∃p xs i v,x=.ref p/\y=.int i/\SqT K H p xs/\atI xs i=some v/\Q v H
noncomputable def Qlh:R2:=fun x y H Q=>∃z i c,x=.str z/\y=.int i/\z.length<=sizeLine/\atI z.cps.toList i=some c/\Q (.str ⟨#[c]⟩) H
theorem ix_list:IxR X (Qli X.K):=by
 intro value slice pins s σ H x y v u Q I rx ry h hs
 obtain⟨p,xs,i,z,rfl,rfl,hq,he,q⟩:=h
 cases rx
 obtain⟨t,rfl⟩:=ry
 obtain⟨its,r,pl,hz⟩:=I.list hq
 obtain⟨j,h1,h2,h3,h4,h5⟩:=QaE he
 obtain⟨w,ew,rw'⟩:=r.get h2
 have hl:=r.length
 have hn:=YT
 have fin:EP X pins σ Q w s:=⟨z,H,I,rw',q⟩
 by_cases h0:0<=i
 ·have hj:i.toNat=j:=by
   rw [seqIndex_of h0 h5]at h1
   exact Option.some.inj h1
  exact item_listR pl.isList h0 (by lia) (by rw [hj];simpa using ew) fin hs
 ·have hj:(i+(its.toArray.size:Int)).toNat=j:=by
   rw [seqIndex_neg (by lia) h4]at h1
   rw [List.size_toArray,<-hl]
   exact Option.some.inj h1
  exact subscriptTail_builtinR (x:=w) pl.isList.typeIs slot_list_getitem.lookup
   (wpAny_getItem_list_neg (Q:=fun r s'=>r=w/\EP X pins σ Q r s') pl.isList (by lia) (by rw [List.size_toArray]<;>lia) (by lia) (by rw [hj];simpa using ew) ⟨rfl,fin⟩) hs
theorem ix_tup:IxR X (Qlg X.K):=by
 intro value slice pins s σ H x y v u Q I rx ry h hs
 obtain⟨p,xs,i,z,rfl,rfl,hq,he,q⟩:=h
 cases rx
 obtain⟨t,rfl⟩:=ry
 obtain⟨its,r,pl,hz⟩:=I.tuple hq
 obtain⟨j,h1,h2,h3,h4,h5⟩:=QaE he
 obtain⟨w,ew,rw'⟩:=r.get h2
 have hl:=r.length
 have hn:=YT
 have fin:EP X pins σ Q w s:=⟨z,H,I,rw',q⟩
 exact subscriptTail_builtinR (x:=w) pl.typeIs slot_tuple_getitem.lookup
  (getItem_tuple (j:=j) (Q:=fun r s'=>r=w/\EP X pins σ Q r s') pl (by lia) (by lia) (by rw [List.size_toArray,<-hl];exact h1) (by simpa using ew) ⟨rfl,fin⟩) hs
theorem QiF:IxR X Qlh:=by
 intro value slice pins s σ H x y v u Q I rx ry h hs
 obtain⟨z,i,c,rfl,rfl,hz,he,q⟩:=h
 obtain⟨t,rfl⟩:=rx
 obtain⟨t',rfl⟩:=ry
 obtain⟨j,h1,h2,h3,h4,h5⟩:=QaE he
 have hl:z.cps.toList.length=z.length:=by simp [Str.length]
 rw [hl]at h1 h4 h5
 have hn:=YT
 exact tail_any (typeIs_str s z t) slot_str_getitem.lookup (getItem_str (c:=c) (by
  have e1:decide (i < -(2 ^ 63:Int))=false:=decide_eq_false (by lia)
  have e2:decide (i≥2 ^ 63)=false:=decide_eq_false (by lia)
  rw [e1,e2,Bool.or_false]) (by rw [h1];simpa using h2) ⟨.str ⟨#[c]⟩,H,I.tok _,⟨_,rfl⟩,q⟩) hs
noncomputable def rIx(K:PySem.W.Frag):R2:=fun x y H Q=>Qli K x y H Q\/Qlg K x y H Q\/Qlh x y H Q
theorem ix_seq:IxR X (rIx X.K):=ix_list.or (ix_tup.or QiF)
theorem Ju(lo hi:Option Int)(n:Nat):(sliceBounds lo hi none n).1=((HT.sIx n 0 lo:Nat):Int)/\(sliceBounds lo hi none n).2.1=((HT.sIx n n hi:Nat):Int)/\(sliceBounds lo hi none n).2.2=1:=by
 refine⟨?_,?_,rfl⟩
 ·cases lo with
  | none=>simp [sliceBounds,HT.sIx]
  | some i =>
   simp only [sliceBounds,HT.sIx,Option.getD_none,show(1:Int) > 0 by decide,if_true]
   by_cases h:i<0
   ·simp only [h,if_true]<;>lia
   ·simp only [h,if_false]<;>lia
 ·cases hi with
  | none=>simp [sliceBounds,HT.sIx]
  | some i =>
   simp only [sliceBounds,HT.sIx,Option.getD_none,show(1:Int) > 0 by decide,if_true]
   by_cases h:i<0
   ·simp only [h,if_true]<;>lia
   ·simp only [h,if_false]<;>lia
theorem Y7(its:List Value)(lo hi:Option Int):slicePick its.toArray lo hi none=((its.drop (HT.sIx its.length 0 lo)).take (HT.sIx its.length its.length hi-HT.sIx its.length 0 lo)).toArray:=by
 obtain⟨h1,h2,h3⟩:=Ju lo hi its.toArray.size
 unfold slicePick
 rw [h1,h2,h3]
 simp only [sliceRange_one,pick_run,List.size_toArray]<;>rfl
noncomputable def Qle(K:PySem.W.Frag):V->Option Int->Option Int->Hp->VK->Prop:=fun x lo hi H Q=>∃a xs,x=.ref a/\SqL K H a xs/\∀p,H p=none->Q (.ref p) (upd H p (.lst (Qfs xs lo hi)))
theorem sl_list:SlR X (Qle X.K):=by
 intro pins s σ H x v vl vu lo hi sl Q I rx hs pl pu h
 obtain⟨a,xs,rfl,hx,q⟩:=h
 cases rx
 obtain⟨its,r,ht,hz⟩:=I.list hx
 have hlen:=r.length
 refine⟨"list",_,slot_list_getitem.lookup,ht.isList.typeIs,?_⟩
 refine wpAny_getItem_list_slice ht.isList hs pl pu .none (by simp) ?_ (by rw [List.size_toArray]<;>lia)
 rw [Y7,<-hlen]
 refine⟨.ref s.heap.objs.size,_,I.laid (t':=s.toks) (o:=.lst (Qfs xs lo hi)) (fun b ob q=>Heap.get?_push_of_some _ q) (Nat.le_refl _) ?_,rfl,q _ (I.hok.fresh (Nat.le_refl _))⟩
 exact⟨Nat.le_trans (YA xs lo hi) hz,_,0,(r.drop (HT.sIx xs.length 0 lo)).take (HT.sIx xs.length xs.length hi-HT.sIx xs.length 0 lo),Heap.get?_push_size _ rfl⟩
noncomputable def YH:V->Bool
 | .non=>true
 | .bl _=>true
 | .int _=>true
 | .str _=>true
 | _=>false
noncomputable def eqV:V->V->Bool
 | .non,.non=>true
 | .bl a,.bl b=>a==b
 | .bl a,.int b=>(if a then 1 else 0)==b
 | .int a,.bl b=>a==(if b then 1 else 0)
 | .int a,.int b=>a==b
 | .str a,.str b=>a==b
 | _,_=>false
theorem QiQ{A:Around}{s:Shared}{y x:V}{u v:Value}(ry:RelV y u)(rx:RelV x v)(fy:YH y=true)(fx:YH x=true):SeqAt.EqAt A s u v (eqV y x):=by
 cases y with
 | non =>
  cases ry
  cases x with
  | non=>cases rx;exact SeqAt.EqAt.same _
  | bl b=>cases rx;exact SeqAt.EqAt.none_bool b
  | int b=>obtain⟨t,rfl⟩:=rx;exact SeqAt.EqAt.none_int b t
  | str b=>obtain⟨t,rfl⟩:=rx;exact SeqAt.EqAt.none_str b t
  | _=>exact absurd (show false=true from fx) Bool.false_ne_true
 | bl a =>
  cases ry
  cases x with
  | non=>cases rx;exact SeqAt.EqAt.bool_none a
  | bl b=>cases rx;exact SeqAt.EqAt.bool_bool a b
  | int b=>obtain⟨t,rfl⟩:=rx;exact SeqAt.EqAt.bool_int a b t
  | str b=>obtain⟨t,rfl⟩:=rx;exact SeqAt.EqAt.bool_str a b t
  | _=>exact absurd (show false=true from fx) Bool.false_ne_true
 | int a =>
  obtain⟨t',rfl⟩:=ry
  cases x with
  | non=>cases rx;exact SeqAt.EqAt.int_none a t'
  | bl b=>cases rx;exact SeqAt.EqAt.int_bool a t' b
  | int b=>obtain⟨t,rfl⟩:=rx;exact SeqAt.EqAt.int_int a t' b t
  | str b=>obtain⟨t,rfl⟩:=rx;exact SeqAt.EqAt.int_str a t' b t
  | _=>exact absurd (show false=true from fx) Bool.false_ne_true
 | str a =>
  obtain⟨t',rfl⟩:=ry
  cases x with
  | non=>cases rx;exact SeqAt.EqAt.str_none a t'
  | bl b=>cases rx;exact SeqAt.EqAt.str_bool a t' b
  | int b=>obtain⟨t,rfl⟩:=rx;exact SeqAt.EqAt.str_int a t' b t
  | str b=>obtain⟨t,rfl⟩:=rx;exact SeqAt.EqAt.str_str a t' b t
  | _=>exact absurd (show false=true from fx) Bool.false_ne_true
 | _=>exact absurd (show false=true from fy) Bool.false_ne_true
noncomputable def eqU(x:V)(u:Value):Bool:=match u with
 | .none=>eqV .non x
 | .bool b=>eqV (.bl b) x
 | .int i _=>eqV (.int i) x
 | .str z _=>eqV (.str z) x
 | _=>false
theorem Qfp{x y:V}{u:Value}(r:RelV y u)(f:YH y=true):eqU x u=eqV y x:=by
 cases y with
 | non=>cases r;rfl
 | bl b=>cases r;rfl
 | int i=>obtain⟨t,rfl⟩:=r;rfl
 | str z=>obtain⟨t,rfl⟩:=r;rfl
 | _=>exact absurd (show false=true from f) Bool.false_ne_true
theorem YC{x:V}:∀{xs:List V} {us:List Value},Vals xs us->xs.all YH=true->us.any (eqU x)=xs.any fun y=>eqV y x
 | _,_,.nil,_=>rfl
 | y::xs,u::us,.cons r t,f=>by
  rw [List.all_cons,Bool.and_eq_true]at f
  rw [List.any_cons,List.any_cons,Qfp r f.1,YC t f.2]
theorem ZV{A:Around}{s:Shared}{x:V}{v:Value}(rx:RelV x v)(fx:YH x=true):∀{xs:List V} {us:List Value},Vals xs us->xs.all YH=true->∀u∈us,SeqAt.EqAt A s u v (eqU x u)
 | _,_,.nil,_=>fun u hu=>by cases hu
 | y::xs,u::us,.cons r t,f=>fun u' hu=>by
  rw [List.all_cons,Bool.and_eq_true]at f
  rcases List.mem_cons.mp hu with rfl | hu
  ·rw [Qfp r f.1];exact QiQ r rx f.1 fx
  ·exact ZV rx fx t f.2 u' hu
noncomputable def inV(x:V)(xs:List V):Bool:=xs.any fun y=>eqV y x
noncomputable def rIn(K:PySem.W.Frag)(neg:Bool):R2:=fun x y H Q=>∃p xs,y=.ref p/\(SqL K H p xs\/SqT K H p xs)/\YH x=true/\xs.all YH=true/\Q (.bl (if neg then !inV x xs else inV x xs)) H
theorem Qcw:OpR X (compareOp .In) (rIn X.K false):=by
 intro pins s σ H x y v u Q I rx ry h
 obtain⟨p,xs,rfl,hq,fx,fs,q⟩:=h
 cases ry
 rcases hq with hq | hq
 ·obtain⟨its,r,pl,hz⟩:=I.list hq
  refine SeqAt.in_listAt (eqU x) pl.isList (fun w hw=>ZV rx fx r fs w (by simpa using hw)) ⟨.bl _,H,I,rfl,?_⟩
  rw [show its.toArray.any (eqU x)=its.any (eqU x) by simp,YC r fs]
  exact q
 ·obtain⟨its,r,pl,hz⟩:=I.tuple hq
  refine SeqAt.in_tupleAt (eqU x) pl (fun w hw=>ZV rx fx r fs w (by simpa using hw)) ⟨.bl _,H,I,rfl,?_⟩
  rw [show its.toArray.any (eqU x)=its.any (eqU x) by simp,YC r fs]
  exact q
theorem JC:OpR X (compareOp .NotIn) (rIn X.K true):=by
 intro pins s σ H x y v u Q I rx ry h
 obtain⟨p,xs,rfl,hq,fx,fs,q⟩:=h
 cases ry
 rcases hq with hq | hq
 ·obtain⟨its,r,pl,hz⟩:=I.list hq
  refine SeqAt.notIn_listAt (eqU x) pl.isList (fun w hw=>ZV rx fx r fs w (by simpa using hw)) ⟨.bl _,H,I,rfl,?_⟩
  rw [show its.toArray.any (eqU x)=its.any (eqU x) by simp,YC r fs]
  exact q
 ·obtain⟨its,r,pl,hz⟩:=I.tuple hq
  refine SeqAt.notIn_tupleAt (eqU x) pl (fun w hw=>ZV rx fx r fs w (by simpa using hw)) ⟨.bl _,H,I,rfl,?_⟩
  rw [show its.toArray.any (eqU x)=its.any (eqU x) by simp,YC r fs]
  exact q
theorem JU : CallR X (.builtin "len") (fun xs H Q => ∃ p ys, xs = [.ref p] /\ (SqL X.K H p ys \/ SqT X.K H p ys) /\ Q (.int ys.length) H) := by
 intro pins s σ H xs us Q I r h
 obtain⟨p,ys,rfl,hq,q⟩:=h
 obtain⟨u,rfl,rx⟩:=Jr r
 cases rx
 have hn:=YT
 rcases hq with hq | hq
 ·obtain⟨its,r',pl,hz⟩:=I.list hq
  have hlen:=r'.length
  exact Calls.call_len_list pl.isList (by simp only [List.size_toArray]<;>lia) ⟨.int ys.length,H,I.tok _,⟨s.toks+1,by rw [List.size_toArray,hlen]⟩,q⟩
 ·obtain⟨its,r',pl,hz⟩:=I.tuple hq
  have hlen:=r'.length
  exact len_tuple pl (by simp only [List.size_toArray]<;>lia) ⟨.int ys.length,H,I.tok _,⟨s.toks+1,by rw [List.size_toArray,hlen]⟩,q⟩
theorem JT : CallR X (.builtin "len") (fun xs H Q => ∃ z, xs = [.str z] /\ z.length <= sizeLine /\ Q (.int z.length) H) := by
 intro pins s σ H xs us Q I r h
 obtain⟨z,rfl,hz,q⟩:=h
 obtain⟨u,rfl,t,rfl⟩:=Jr r
 have hn:=YT
 exact len_str (by lia) ⟨.int z.length,H,I.tok _,⟨_,rfl⟩,q⟩
theorem CallR.or{f:Value}{r r':List V->Hp->VK->Prop}(h:CallR X f r)(h':CallR X f r'):CallR X f (fun xs H Q=>r xs H Q\/r' xs H Q):=by
 intro pins s σ H xs us Q I rs q
 rcases q with q | q
 ·exact h pins s σ H xs us Q I rs q
 ·exact h' pins s σ H xs us Q I rs q
theorem JS : CallR X (.type "list") (fun xs H Q => ∃ p ys, xs = [.ref p] /\ (SqL X.K H p ys \/ SqT X.K H p ys) /\ ∀ l, H l = none -> Q (.ref l) (upd H l (.lst ys))) := by
 intro pins s σ H xs us Q I r h
 obtain⟨p,ys,rfl,hq,q⟩:=h
 obtain⟨u,rfl,rx⟩:=Jr r
 cases rx
 have fin:∀(its:List Value),Vals ys its->ys.length<=sizeLine->∀(h':Heap) (c':Nat),(∀b o',s.heap.get? b=some o'->h'.get? b=some o') ->
   h'.get? s.heap.objs.size=some { cls:=.type "list",dict:=none,data:=.seq its.toArray c',slots:=#[] }->EP X pins σ Q (.ref s.heap.objs.size) { s with heap:=h' }:=fun its r' hz h' c' kp e =>
  ⟨.ref s.heap.objs.size,_,I.laid (t':=s.toks) kp (Nat.le_refl _) (show ObjOk X.prog X.w _ h' _ (.lst ys)from⟨hz,its,c',r',e⟩),rfl,q _ (I.hok.fresh (Nat.le_refl _))⟩
 rcases hq with hq | hq
 ·obtain⟨its,r',pl,hz⟩:=I.list hq
  have hlen:=r'.length
  obtain⟨o,ho,hc,n,hd⟩:=pl.isList
  exact call_list_seq p (.inl rfl) ho hc hd (fun h' c' kp e=>fin its r' hz h' c' kp e) (by simp only [List.size_toArray]<;>lia)
 ·obtain⟨its,r',pl,hz⟩:=I.tuple hq
  have hlen:=r'.length
  obtain⟨o,ho,hc,n,hd⟩:=pl
  exact call_list_seq p (.inr rfl) ho hc hd (fun h' c' kp e=>fin its r' hz h' c' kp e) (by simp only [List.size_toArray]<;>lia)
theorem Ji : CallR X (.type "tuple") (fun xs H Q => ∃ p ys, xs = [.ref p] /\ ((SqL X.K H p ys /\ ∀ l, H l = none -> Q (.ref l) (upd H l (.tup ys))) \/ (SqT X.K H p ys /\ Q (.ref p) H))) := by
 intro pins s σ H xs us Q I r h
 obtain⟨p,ys,rfl,h⟩:=h
 obtain⟨u,rfl,rx⟩:=Jr r
 cases rx
 rcases h with⟨hq,q⟩ | ⟨hq,q⟩
 ·obtain⟨its,r',pl,hz⟩:=I.list hq
  have hlen:=r'.length
  refine call_tuple_list pl.isList (fun h' kp=>?_) (by simp only [List.size_toArray]<;>lia)
  have I1:Inv X pins σ H { s with heap:=h' }:=I.kept (t':=s.toks) kp
  have I2:Inv X pins σ (upd H h'.objs.size (.tup ys)) { s with heap:=h'.push { cls:=.type "tuple",data:=.seq its.toArray } }:=
   I1.laid (t':=s.toks) (fun b o e=>Heap.get?_push_of_some _ e) (Nat.le_refl _) (show ObjOk X.prog X.w _ _ _ (.tup ys)from⟨hz,its,r',IsTup.new _ _⟩)
  exact⟨.ref h'.objs.size,_,I2,rfl,q _ (I1.hok.fresh (Nat.le_refl _))⟩
 ·obtain⟨its,r',pl,hz⟩:=I.tuple hq
  exact call_tuple_same pl ⟨.ref p,H,I,rfl,q⟩
noncomputable def tyV(K:PySem.W.Frag)(T:String)(x:V)(H:Hp):Prop:=match x with
 | .str _=>T="str"
 | .int _=>T="int"
 | .ref p => (T = "list" /\ ∃ xs, SqL K H p xs) \/ (T = "tuple" /\ ∃ o, K.lookup p = some o /\ o.cls = .type "tuple" /\ o.dict = none) \/
   (T = "dict" /\ ((∃ kvs, H p = some (.dK kvs)) \/ ∃ kvs, H p = some (.dT kvs))) \/ (T = "set" /\ ∃ S n, H p = some (.set S n))
 | _=>False
theorem QeY{pins:List (Addr×Obj)}{σ:St}{H:Hp}{s:Shared}{T:String}{x:V}{v:Value}(I:Inv X pins σ H s)(r:RelV x v)(ty:tyV X.K T x H):
  s.TypeIs v T/\∀a,v=.ref a->∃ob,s.heap.get? a=some ob/\ob.dict=none:=by
 cases x with
 | str z =>
  obtain⟨t,rfl⟩:=r
  cases(show T="str" from ty)
  exact⟨typeIs_str s z t,fun _ e=>nomatch e⟩
 | int i =>
  obtain⟨t,rfl⟩:=r
  cases(show T="int" from ty)
  exact⟨typeIs_int s i t,fun _ e=>nomatch e⟩
 | ref p =>
  cases r
  rcases ty with⟨rfl,xs,hq⟩ | ⟨rfl,o,hk,hc,hd⟩ | ⟨rfl,hk⟩ | ⟨rfl,S,n,hk⟩
  ·obtain⟨its,_,pl,_⟩:=I.list hq
   refine⟨pl.isList.typeIs,fun a e=>?_⟩
   cases e
   obtain⟨o,n,e,c,hd,_⟩:=pl
   exact⟨o,e,hd⟩
  ·refine⟨⟨o,I.kIn p o hk,hc⟩,fun a e=>?_⟩
   cases e
   exact⟨o,I.kIn _ o hk,hd⟩
  ·have z:∃o,s.heap.get? p=some o/\o.ExactDict:=by
    rcases hk with⟨kvs,hk⟩ | ⟨kvs,hk⟩
    ·obtain⟨_,_,_,_,o,_,_,e,ex,_⟩:=I.hok p _ hk
     exact⟨o,e,ex⟩
    ·obtain⟨_,_,_,_,o,_,_,e,ex,_⟩:=I.hok p _ hk
     exact⟨o,e,ex⟩
   obtain⟨o,e,ex⟩:=z
   refine⟨⟨o,e,ex.1⟩,fun a e2=>?_⟩
   cases e2
   exact⟨o,e,ex.2.1⟩
  ·obtain⟨o,_,_,_,e,ex,_⟩:=I.hok p _ hk
   refine⟨⟨o,e,ex.1⟩,fun a e2=>?_⟩
   cases e2
   exact⟨o,e,ex.2.1⟩
 | _=>exact False.elim ty
noncomputable def QlT(K:PySem.W.Frag)(T:String)(r:V->List V->Hp->VK->Prop)(to:TE):TE:=fun σ H Q=>to σ H fun x H1=>tyV K T x H1/\r x [] H1 Q
noncomputable def tBM(K:PySem.W.Frag)(T:String)(r:V->List V->Hp->VK->Prop)(to:TE)(t:TA):TE:=fun σ H Q=>to σ H fun x H1=>tyV K T x H1/\t σ H1 fun xs H2=>r x xs H2 Q
variable {o e:Expr}{es:List Expr}{to:TE}{t:TA}{name:Str}{apos cpos:Pos}{T id:String}{r:V->List V->Hp->VK->Prop}
theorem Qic(pa:PlainAttrs T)(slot:Slot T name id)(hty:typeOf (.builtin id)=pure (.type "method_descriptor")) (hm:MtR X id r) (ho:PE X o to)
  (hbase:attributeBase o name X.env (eval o X.env)=eval o X.env:=by rfl) (hline:(apos.endLine==cpos.line)=true:=by rfl):PE X (.Call (.Attribute o name apos) [] [] cpos) (QlT X.K T r to):=by
 intro pins s σ H Q I h
 refine wpAny_Call_method0_late hbase hline (thn (ho pins s σ H _ I h) fun v s1 ⟨x,H1,I1,r1,ty,q1⟩=>?_)
 obtain⟨h1,h2⟩:=QeY I1 r1 ty
 exact⟨T,id,pa,slot,hty,h1,h2,Calls.callWith_builtin rfl (PySem.evalArgs_none (hm pins s1 σ H1 x [] v [] Q I1 r1 .nil q1))⟩
theorem Qkh(pa:PlainAttrs T)(slot:Slot T name id)(hty:typeOf (.builtin id)=pure (.type "method_descriptor")) (hm:MtR X id r) (ho:PE X o to) (ha:PA X (e::es) t)
  (hbase:attributeBase o name X.env (eval o X.env)=eval o X.env:=by rfl)
  (hfew:((backTo cpos (starEach (e::es) X.env)).all (fun x=>!x.1)&&(backToKw cpos (keywordEach [] X.env)).all (fun x=>x.1.isSome)
   && decide ((e::es).length+([]:List Keyword).length+(if([]:List Keyword).isEmpty then 0 else 1) < 30))=true:=by rfl)
  (hline:(apos.endLine==cpos.line)=true:=by rfl) (hs:starEach (e::es) X.env=(false,eval e X.env)::starEach es X.env:=by rfl) (hplain:(backTo cpos (starEach es X.env)).any (·.1)=false:=by rfl):
  PE X (.Call (.Attribute o name apos) (e::es) [] cpos) (tBM X.K T r to t):=by
 intro pins s σ H Q I h
 refine wpAny_Call_method_late hbase hfew hline rfl (thn (ho pins s σ H _ I h) fun v s1 ⟨x,H1,I1,r1,ty,q1⟩=>?_)
 obtain⟨h1,h2⟩:=QeY I1 r1 ty
 refine⟨T,id,pa,slot,hty,h1,h2,?_⟩
 have hA:=ha cpos pins s1 σ H1 _ I1 q1
 rw [hs]at hA ⊢
 refine Calls.callWith_builtin (by show(false||(backTo cpos (starEach es X.env)).any (·.1))=false;rw [hplain]<;>rfl) (Calls.evalArgs_plain ?_)
 exact thn hA fun us s2 ⟨vs,H2,I2,r2,q2⟩=>hm pins s2 σ H2 x vs v us Q I2 r1 r2 q2
end
end L2
namespace L2
open PySem PySem.Spec PyProof.Rows
noncomputable def MtM(X:Cx)(id:String)(r:V->List V->Hp->VK->Prop):Prop :=
 ∀(pins:List (Addr×Obj)) (s:Shared) (σ:St) (H:Hp) (x:V) (xs:List V) (v:Value) (us:List Value) (Q:VK),Inv X pins σ H s->RelV x v->Vals xs us->r x xs H Q ->
  wpAny (model X.prog X.w) X.A (call (.builtin id) (v::us)) (EP X pins σ Q) X.xe s
theorem Vals.one:∀{x:V} {us:List Value},Vals [x] us->∃u,us=[u]/\RelV x u
 | _,_,.cons r .nil=>⟨_,rfl,r⟩
theorem Vals.two:∀{x y:V} {us:List Value},Vals [x,y] us->∃u v,us=[u,v]/\RelV x u/\RelV y v
 | _,_,_,.cons r (.cons q .nil)=>⟨_,_,rfl,r,q⟩
theorem Vals.reverse{xs:List V}{us:List Value}(h:Vals xs us):Vals xs.reverse us.reverse:=by
 induction h with
 | nil=>exact .nil
 | cons r t ih=>rw [List.reverse_cons,List.reverse_cons];exact Vals.append ih (.cons r .nil)
theorem Vals.rep{xs:List V}{us:List Value}(h:Vals xs us):∀k:Nat,Vals (List.replicate k xs).flatten (List.replicate k us).flatten
 | 0=>.nil
 | k+1=>by
  rw [List.replicate_succ,List.replicate_succ,List.flatten_cons,List.flatten_cons]
  exact Vals.append h (Vals.rep h k)
theorem JN(its:List Value):∀(k:Nat) (acc:List Value),
  List.foldl (fun x1 x2=>x1++x2) acc.toArray (List.replicate k its.toArray)=(acc++(List.replicate k its).flatten).toArray
 | 0,acc=>by simp
 | k+1,acc=>by
  have e:acc.toArray++its.toArray=(acc++its).toArray:=by simp
  have e2:(acc++its)++(List.replicate k its).flatten=acc++(List.replicate (k+1) its).flatten:=by
   rw [List.replicate_succ,List.flatten_cons,List.append_assoc]
  rw [<-e2,<-JN its k (acc++its),<-e,List.replicate_succ,List.foldl_cons]
section
variable {X:Cx}{pins:List (Addr×Obj)}{σ:St}{H:Hp}{s:Shared}{l b:Addr}{xs ys zs:List V}
theorem Inv.lset{its its':List Value}{n:Nat}{f:Array Value->Array Value}{t':Nat}(I:Inv X pins σ H s)(hH:H l=some (.lst xs))
  (e:s.heap.get? l=some { cls:=.type "list",data:=.seq its.toArray n }) (hf:f its.toArray=its'.toArray) (hv:Vals ys its') (hz:ys.length<=sizeLine):
  Inv X pins σ (upd H l (.lst ys)) { s with heap:=s.heap.update l (Obj.mapSeq f),toks:=t' }:=by
 have q:=PySem.IsL.update e f
 rw [hf]at q
 refine I.write (x:=l) (e:=l) (by rw [hH];exact trivial) (.inl rfl) (fun b' u hb hu=>(Heap.get?_update_other s.heap (Obj.mapSeq f) (Ne.symm hb)).trans hu) ⟨_,q⟩ ?_
 exact⟨hz,its',_,hv,q⟩
theorem Inv.lnew{its:List Value}{t':Nat}(I:Inv X pins σ H s)(hv:Vals ys its)(hz:ys.length<=sizeLine):
  Inv X pins σ (upd H s.heap.objs.size (.lst ys)) { s with heap:=s.heap.push { cls:=.type "list",data:=.seq its.toArray },toks:=t' }:=
 I.laid (fun _ _ q=>Heap.get?_push_of_some _ q) (Nat.le_refl _) ⟨hz,its,0,hv,Heap.get?_push_size _ rfl⟩
theorem Inv.fresh(I:Inv X pins σ H s):H s.heap.objs.size=none:=I.hok.fresh (Nat.le_refl _)
theorem Inv.lstM (I : Inv X pins σ H s) (hH : H l = some (.lst xs)) : xs.length <= sizeLine /\ ∃ (its : List Value) (n : Nat), Vals xs its /\ xs.length = its.length /\ s.heap.get? l = some { cls := .type "list", data := .seq its.toArray n } := by
 obtain⟨z,its,n,r,e⟩:=I.hok l _ hH
 exact⟨z,its,n,r,r.length,e⟩
theorem Qep{n:Nat}(h:n<=sizeLine):Builtin.List.listTooLong n=false:=by
 unfold Builtin.List.listTooLong
 exact decide_eq_false (by lia)
end
section
variable {X:Cx}
noncomputable def QfV:V->List V->Hp->VK->Prop:=fun x vs H Q=>∃l xs y,x=.ref l/\vs=[y]/\H l=some (.lst xs)/\xs.length<sizeLine/\Q .non (upd H l (.lst (xs++[y])))
theorem JF:MtM X "list.append" QfV:=by
 intro pins s σ H x vs v us Q I rx rv h
 obtain⟨l,xs,y,rfl,rfl,hH,hz,q⟩:=h
 cases rx
 obtain⟨u,rfl,ru⟩:=rv.one
 obtain⟨z,its,n,r,hl,e⟩:=I.lstM hH
 refine call_meets F.slot_list_append ⟨_,e,rfl⟩ F.entry_list_append (F.args_list_append_2 _ _) (PySem.list_append l its.toArray n u (by rw [List.size_toArray];lia)) ⟨e,?_⟩
 refine⟨.non,_,I.lset (its':=its++[u]) hH e (by simp) (r.append (.cons ru .nil)) ?_,rfl,q⟩
 rw [List.length_append,List.length_singleton]
 lia
noncomputable def Ql6:R2:=fun x y H Q=>∃l b xs zs,x=.ref l/\y=.ref b/\H l=some (.lst xs)/\H b=some (.lst zs)/\xs.length+zs.length<=sizeLine/\∀p,H p=none->Q (.ref p) (upd H p (.lst (xs++zs)))
theorem Qip:OpR X (binaryOp .Add) Ql6:=by
 intro pins s σ H x y v u Q I rx ry h
 obtain⟨l,b,xs,zs,rfl,rfl,hH,hB,hz,q⟩:=h
 cases rx
 cases ry
 obtain⟨z,its,n,r,hl,e⟩:=I.lstM hH
 obtain⟨z2,its2,n2,r2,hl2,e2⟩:=I.lstM hB
 refine PySem.P.add_list e e2 ?_ (by rw [List.size_toArray,List.size_toArray];lia)
 have ea:its.toArray++its2.toArray=(its++its2).toArray:=by simp
 rw [ea]
 exact⟨.ref _,_,I.lnew (t':=s.toks) (r.append r2) (by rw [List.length_append];lia),rfl,q _ I.fresh⟩
noncomputable def Ql5:R2:=fun x y H Q=>∃l k xs,x=.ref l/\y=.int k/\H l=some (.lst xs)/\-(2 ^ 63)<=k/\k<2 ^ 63/\xs.length*k.toNat<=sizeLine /\
 ∀p,H p=none->Q (.ref p) (upd H p (.lst (List.replicate k.toNat xs).flatten))
theorem Qgs{α:Type}(xs:List α)(k:Nat):(List.replicate k xs).flatten.length=k*xs.length:=by
 induction k with
 | zero=>simp
 | succ k ih=>rw [List.replicate_succ,List.flatten_cons,List.length_append,ih,Nat.succ_mul,Nat.add_comm]
theorem Qif:OpR X (binaryOp .Mult) Ql5:=by
 intro pins s σ H x y v u Q I rx ry h
 obtain⟨l,k,xs,rfl,rfl,hH,h1,h2,hz,q⟩:=h
 cases rx
 obtain⟨t,rfl⟩:=ry
 obtain⟨z,its,n,r,hl,e⟩:=I.lstM hH
 have hlen:its.toArray.size*k.toNat<=sizeLine:=by rw [List.size_toArray,<-hl];exact hz
 have hcap:¬its.toArray.size*k.toNat>(2 ^ 63-1) / 8:=by
  have:(sizeLine:Nat)<=(2 ^ 63-1) / 8:=by decide
  lia
 have hfit:¬(!Builtin.List.listFitsIndex k)=true:=by
  rw [fitsIndex_both h1 h2]
  exact Bool.false_ne_true
 have hlong:¬Builtin.List.listTooLong (its.toArray.size*k.toNat)=true:=by
  rw [Qep hlen]
  exact Bool.false_ne_true
 have hnew:List.foldl (fun x1 x2=>x1++x2) #[] (List.replicate (if its.toArray.isEmpty=true then 0 else k.toNat) its.toArray)=(List.replicate k.toNat its).flatten.toArray:=by
  have f0:∀m:Nat,List.foldl (fun x1 x2=>x1++x2) #[] (List.replicate m its.toArray)=(List.replicate m its).flatten.toArray:=fun m=>by
   have:=JN its m []
   rw [List.nil_append]at this
   exact this
  rw [f0]
  cases its with
  | nil=>simp
  | cons a r'=>rw [if_neg (by simp)]
 refine wpAny_binaryOp_repeat_ref (T:="list") (U:="int") (by decide) ⟨_,e,rfl⟩ (fun s'=>typeIs_int s' k t) noFill_list_mul F.fills_int_mul F.slot_int_rmul repeat_list F.slot_int_index.lookup
  (call_meets F.slot_int_rmul (typeIs_int s k t) F.entry_int_rmul (F.args_int_rmul_2 _ _) (int___rmul___int_list k t l its.toArray n)
   ⟨e,rfl,⟨_,e,rfl⟩,call_meets F.slot_list_mul ⟨_,e,rfl⟩ F.entry_list_mul (F.args_list_mul_2 _ _) (AutoListH.list___mul___list_int_3 l its.toArray n k t hfit hcap hlong) ⟨e,?_⟩⟩)
 rw [hnew]
 exact⟨.ref _,_,I.lnew (t':=s.toks) (r.rep k.toNat) (by rw [Qgs,Nat.mul_comm];exact hz),rfl,q _ I.fresh⟩
end
section
variable {prog:Program}{w:World}{A:Around}{E:Value->Shared->Prop}{s:Shared}
set_option maxRecDepth 100000 in
end
section
variable {X:Cx}
end
end L2
namespace L2
open PySem PySem.Spec PyProof.Rows
section
variable {κ:Type}[DecidableEq κ]
noncomputable def Y4(kvs:List (κ×V))(k:κ):Option V:=(kvs.find? fun kv=>decide (kv.1=k)).map (·.2)
noncomputable def Qca(kvs:List (κ×V))(k:κ)(v:V):List (κ×V):=
 if(kvs.any fun kv=>decide (kv.1=k))=true then kvs.map (fun kv=>if kv.1=k then(kv.1,v)else kv)else kvs++[(k,v)]
theorem QaI{p:κ×V}{r:List (κ×V)}{k:κ}(e:p.1=k):Y4 (p::r) k=some p.2:=by simp [Y4,List.find?_cons,e]
theorem QaJ{p:κ×V}{r:List (κ×V)}{k:κ}(e:¬p.1=k):Y4 (p::r) k=Y4 r k:=by simp [Y4,List.find?_cons,e]
theorem Qan(kvs:List (κ×V))(k:κ)(v:V):(Qca kvs k v).length<=kvs.length+1:=by
 unfold Qca
 split
 ·rw [List.length_map];lia
 ·rw [List.length_append,List.length_cons,List.length_nil];lia
theorem RelO.isSome_eq{o:Option V}{u:Option Value}(r:RelO o u):o.isSome=u.isSome:=by
 cases o with
 | none=>cases u with
  | none=>rfl
  | some _=>exact(show False from r).elim
 | some _=>cases u with
  | none=>exact(show False from r).elim
  | some _=>rfl
theorem KV.val{kvs:List (κ×V)}{vs:List (κ×Value)}(r:KV kvs vs)(k:κ):RelO (Y4 kvs k) (valueAt vs k):=by
 unfold KV at r
 induction r with
 | nil=>exact True.intro
 | @cons p q ps qs h t ih =>
  obtain⟨h1,h2⟩:=h
  by_cases e:p.1=k
  ·have e':q.1=k:=h1.symm.trans e
   have b:valueAt (q::qs) k=some q.2:=by simp [valueAt,List.find?_cons,e']
   rw [QaI e,b];exact h2
  ·have e':¬q.1=k:=fun z=>e (h1.trans z)
   have b:valueAt (q::qs) k=valueAt qs k:=by simp [valueAt,List.find?_cons,e']
   rw [QaJ e,b];exact ih
theorem KV.any{kvs:List (κ×V)}{vs:List (κ×Value)}(r:KV kvs vs)(k:κ):(kvs.any fun kv=>decide (kv.1=k))=vs.any fun kv=>decide (kv.1=k):=by
 unfold KV at r
 induction r with
 | nil=>rfl
 | cons h t ih=>rw [List.any_cons,List.any_cons,ih,h.1]
theorem KV.repl{kvs:List (κ×V)}{vs:List (κ×Value)}(r:KV kvs vs)(k:κ){y:V}{u:Value}(ry:RelV y u):
  KV (kvs.map fun kv=>if kv.1=k then(kv.1,y)else kv) (vs.map fun kv=>if kv.1=k then(kv.1,u)else kv):=by
 unfold KV at r ⊢
 induction r with
 | nil=>exact .nil
 | @cons p q ps qs h t ih =>
  rw [List.map_cons,List.map_cons]
  refine .cons ?_ ih
  obtain⟨h1,h2⟩:=h
  by_cases e:p.1=k
  ·rw [if_pos e,if_pos (h1.symm.trans e)];exact⟨h1,ry⟩
  ·rw [if_neg e,if_neg (fun z=>e (h1.trans z))];exact⟨h1,h2⟩
theorem KV.put{kvs:List (κ×V)}{vs:List (κ×Value)}(r:KV kvs vs)(k:κ){y:V}{u:Value}(ry:RelV y u):KV (Qca kvs k y) (stored vs k u):=by
 unfold Qca stored
 rw [r.any k]
 by_cases e:(vs.any fun kv=>decide (kv.1=k))=true
 ·rw [if_pos e,if_pos e];exact r.repl k ry
 ·rw [if_neg e,if_neg e];exact Paired.snoc r ⟨rfl,ry⟩
end
theorem JJ{P:Program}{w:World}{k:Key}{u:Value}(r:RelV (kV k) u):(QB P w).is k u=true:=by
 cases k with
 | inl i=>obtain⟨t,e⟩:=(show ∃t,u=Value.int i t from r);subst e;exact Qam P w i t
 | inr x=>obtain⟨t,e⟩:=(show ∃t,u=Value.str x t from r);subst e;exact Qal P w x t
theorem JK{P:Program}{w:World}:∀{ks:List Key} {us:List Value},Vals (ks.map kV) us->ItemsAre (QB P w) ks us
 | [],_,r=>by rw [List.map_nil]at r;cases r;exact .nil
 | k::ks,_,r=>by
  rw [List.map_cons]at r
  cases r with
  | cons h t=>exact .cons (JJ h) (JK t)
noncomputable abbrev KT(H:Hp):List (List Key×V)->List (List Key×Addr×Value)->Prop:=Paired fun p q=>p.1=q.1/\H q.2.1=some (.tup (p.1.map kV))/\RelV p.2 q.2.2
theorem KT.val{H:Hp}{kvs:List (List Key×V)}{xs:List (List Key×Addr×Value)}(r:KT H kvs xs)(k:List Key):RelO (Y4 kvs k) ((atKey xs k).map (·.2)):=by
 induction r with
 | nil=>exact True.intro
 | @cons p q ps qs h t ih =>
  obtain⟨h1,_,h2⟩:=h
  by_cases e:p.1=k
  ·have e':q.1=k:=h1.symm.trans e
   have b:atKey (q::qs) k=some q.2:=by simp [atKey,List.find?_cons,e']
   rw [QaI e,b];exact h2
  ·have e':¬q.1=k:=fun z=>e (h1.trans z)
   have b:atKey (q::qs) k=atKey qs k:=by simp [atKey,List.find?_cons,e']
   rw [QaJ e,b];exact ih
section
variable {P:Program}{w:World}{H:Hp}{h:Heap}{a:Addr}
theorem QhR{u:HO}(ok:HOk P w H h)(e:Rd H a u):ObjOk P w H h a u:=e.ok ok
theorem Qda{kvs:List (Key×V)}(ok:HOk P w H h)(e:Rd H a (.dK kvs)):kvs.length<=sizeLine/\(a==sysModules)=false/\∃vs,KV kvs vs/\h.DictOf (QB P w) a vs :=
 show ObjOk P w H h a (.dK kvs)from QhR ok e
theorem QgM{kvs:List (Key×V)}(ok:HOk P w H h)(e:H a=some (.dK kvs)):kvs.length<=sizeLine/\(a==sysModules)=false/\∃vs,KV kvs vs/\h.DictOf (QB P w) a vs:=Qda ok (.inl e)
theorem Qa4{ks:List Key}(ok:HOk P w H h)(e:H a=some (.tup (ks.map kV))):(tupleKind (QB P w)).is h ks a:=by
 obtain⟨_,its,r,o,h1,h2,n,h3⟩:=(show ObjOk P w H h a (.tup (ks.map kV))from ok a _ e)
 exact⟨o,its.toArray,n,h1,h2,h3,by simpa using JK r⟩
theorem QeG{kvs:List (List Key×V)}(ok:HOk P w H h)(e:Rd H a (.dT kvs)):kvs.length<=sizeLine/\(a==sysModules)=false /\
  ∃xs,KT H kvs xs/\h.DictOfH (tupleKind (QB P w)) a xs:=by
 obtain⟨z,y,xs,r,o,es,ep,h1,h2,h3,h4,h5⟩:=(show ObjOk P w H h a (.dT kvs)from QhR ok e)
 refine⟨z,y,xs,r,o,es,ep,h1,h2,h3,h4,fun x hx=>?_,h5⟩
 have all:∀{l:List (List Key×V)} {m:List (List Key×Addr×Value)},KT H l m->∀x∈m,(tupleKind (QB P w)).is h x.1 x.2.1:=by
  intro l m q
  induction q with
  | nil=>intro x hx;exact nomatch hx
  | @cons p q ps qs hq t ih =>
   intro x hx
   rcases List.mem_cons.mp hx with e | hx
   ·subst e
    exact Qa4 ok (by rw [<-hq.1];exact hq.2.1)
   ·exact ih x hx
 exact all r x hx
end
noncomputable def DGet(H:Hp)(a:Addr)(y:V)(r:Option V):Prop :=
 (∃kvs k,Rd H a (.dK kvs)/\y=kV k/\r=Y4 kvs k)\/∃kvs k b,Rd H a (.dT kvs)/\y=.ref b/\H b=some (.tup (k.map kV))/\r=Y4 kvs k
theorem DGet.k{H:Hp}{a:Addr}{kvs:List (Key×V)}{k:Key}(e:H a=some (.dK kvs)):DGet H a (kV k) (Y4 kvs k):=.inl ⟨kvs,k,.inl e,rfl,rfl⟩
theorem DGet.t{H:Hp}{a b:Addr}{kvs:List (List Key×V)}{k:List Key}(e:H a=some (.dT kvs))(eb:H b=some (.tup (k.map kV))):DGet H a (.ref b) (Y4 kvs k):=.inr ⟨kvs,k,b,.inl e,rfl,eb,rfl⟩
section
variable {X:Cx}{pins:List (Addr×Obj)}{σ:St}{H:Hp}{s:Shared}{a:Addr}{y v:V}{u r:Value}{o:Option V}{A:Around}{E:Value->Shared->Prop}
theorem Inv.big(I:Inv X pins σ H s):sysModules<s.heap.objs.size:=by
 have h:mainGlobals<s.heap.objs.size:=(I.mod.glob.keeps I.bk).lt
 exact Nat.lt_trans (by decide) h
theorem Qdf{Q:Value->Shared->Prop}(hu:A.units+1<cLine)(I:Inv X pins σ H s)(g:DGet H a y (some v))(ry:RelV y u)(h:∀w' s',Inv X pins σ H s'->RelV v w'->Q w' s'):
  wpAny (model X.prog X.w) A (getItem (.ref a) u) Q E s:=by
 rcases g with⟨kvs,k,e,ey,l⟩ | ⟨kvs,k,b,e,ey,eb,l⟩
 ·subst ey
  obtain⟨z,hd,vs,rel,dd⟩:=Qda I.hok e
  obtain⟨w',hw,rw'⟩:=RelO.some_of (v:=v) (o:=valueAt vs k) (by rw [l];exact rel.val k)
  exact wpAny_getItem_of (JJ ry) dd.mapOf hw (h w' _ (I.tok _) rw')
 ·subst ey
  cases(show u=Value.ref b from ry)
  obtain⟨z,hd,xs,rel,dd⟩:=QeG I.hok e
  obtain⟨w',hw,rw'⟩:=RelO.some_of (v:=v) (o:=(atKey xs k).map (·.2)) (by rw [l];exact rel.val k)
  obtain⟨p,hp,hp2⟩:=Option.map_eq_some_iff.mp hw
  refine wpAny_getItem_heap (tupleKind_room_in1 hu) (Qa4 I.hok eb) dd hp ?_
  rw [hp2]
  exact h w' _ (I.tok _) rw'
theorem Qmo{Q:Value->Shared->Prop}(hu:A.units+1<cLine)(I:Inv X pins σ H s)(g:DGet H a y o)(ry:RelV y u)(h:∀s',Inv X pins σ H s'->Q (.bool o.isSome) s'):
  wpAny (model X.prog X.w) A (compareOp .In u (.ref a)) Q E s:=by
 rcases g with⟨kvs,k,e,ey,l⟩ | ⟨kvs,k,b,e,ey,eb,l⟩
 ·subst ey
  obtain⟨z,hd,vs,rel,dd⟩:=Qda I.hok e
  refine wpAny_in_of (JJ ry) hd dd.mapOf ?_
  rw [<-(rel.val k).isSome_eq,<-l]
  exact h _ (I.tok _)
 ·subst ey
  cases(show u=Value.ref b from ry)
  obtain⟨z,hd,xs,rel,dd⟩:=QeG I.hok e
  refine wpAny_in_heap (tupleKind_room_in1 hu) (Qa4 I.hok eb) hd dd ?_
  have q:=(rel.val k).isSome_eq
  rw [Option.isSome_map]at q
  rw [<-q,<-l]
  exact h _ (I.tok _)
theorem QgQ{Q:Value->Shared->Prop}(hu:A.units+1<cLine)(I:Inv X pins σ H s)(g:DGet H a y o)(ry:RelV y u)(h:∀s',Inv X pins σ H s'->Q (.bool (!o.isSome)) s'):
  wpAny (model X.prog X.w) A (compareOp .NotIn u (.ref a)) Q E s:=by
 rcases g with⟨kvs,k,e,ey,l⟩ | ⟨kvs,k,b,e,ey,eb,l⟩
 ·subst ey
  obtain⟨z,hd,vs,rel,dd⟩:=Qda I.hok e
  refine wpAny_notIn_of (JJ ry) hd dd.mapOf ?_
  rw [<-(rel.val k).isSome_eq,<-l]
  exact h _ (I.tok _)
 ·subst ey
  cases(show u=Value.ref b from ry)
  obtain⟨z,hd,xs,rel,dd⟩:=QeG I.hok e
  refine wpAny_notIn_heap (tupleKind_room_in1 hu) (Qa4 I.hok eb) hd dd ?_
  have q:=(rel.val k).isSome_eq
  rw [Option.isSome_map]at q
  rw [<-q,<-l]
  exact h _ (I.tok _)
theorem QgP{h':Heap}{t':Nat}{ob:HO}(I:Inv X pins σ H s)(mu:Mut (H a))(hs:Heap.SameBut a s.heap h')(he:∃q,h'.get? a=some q)(new:ObjOk X.prog X.w (upd H a ob) h' a ob):
  Inv X pins σ (upd H a ob) { s with heap:=h',toks:=t' }:=
 I.write (x:=a) (e:=a) mu (.inl rfl) (fun b q hb z=>(hs.2 b hb).trans z) he new
theorem QiS{P:Program}{w:World}{H':Hp}{h':Heap}{kvs:List (Key×V)}{vs:List (Key×Value)}(z:kvs.length<=sizeLine)(hd:(a==sysModules)=false)(rel:KV kvs vs)(dd:h'.DictOf (QB P w) a vs):
  ObjOk P w H' h' a (.dK kvs):=⟨z,hd,vs,rel,dd⟩
end
section
variable {X:Cx}{pins:List (Addr×Obj)}{σ:St}{H:Hp}{s:Shared}{a:Addr}{kvs:List (Key×V)}{k:Key}{u:Value}{A:Around}{E:Value->Shared->Prop}
end
noncomputable def QmN(i:Expr):Prop:=∀ov iv,subscripted i false ov iv=operate [ov,iv] (getItem ov iv)
theorem QfK{prog:Program}{w:World}{A:Around}{E:Value->Shared->Prop}{s:Shared}{env:Env}{value slice:Expr}{pos:Pos}{T id:String}{Q:Value->Shared->Prop}
  (hl:typeLookup (.type T) "__getitem__"=pure (some (.builtin id))) (hs:QmN slice)
  (h:wpAny (model prog w) A (eval value env) (fun o s₁=>wpAny (model prog w) A (eval slice env) (fun i s₂=>s₂.TypeIs o T/\wpAny (model prog w) A (getItem o i) Q E s₂) E s₁) E s):
  wpAny (model prog w) A (eval (.Subscript value slice pos) env) Q E s:=by
 refine Subscript_ (wpAny_mono h (fun o s₁ h₁=>wpAny_mono h₁ (fun i s₂ h₂=>?_) fun _ _ x=>x) fun _ _ x=>x)
 obtain⟨hT,h₂⟩:=h₂
 unfold subscriptTail
 refine wpAny_bind ?_
 rw [getitemInPython_of_ne hT.not_modules]
 refine wpAny_bind (wpAny_specialOf hT hl ?_)
 have fin:wpAny (model prog w) A (subscripted slice false o i) (fun r s₃=>wpAny (model prog w) A (letTemporaryGo value o r >>= fun _=>pure r) Q E s₃) E s₂:=by
  rw [hs o i]
  exact wpAny_operating (wpAny_mono h₂ (fun r s₃ h₃=>wpAny_bind (wpAny_letTemporaryGo (wpAny_pure h₃))) fun _ _ x=>x)
 first
  | exact wpAny_pure (wpAny_bind fin)
  | exact wpAny_bind (wpAny_pure (wpAny_bind fin))
  | exact wpAny_bind fin
theorem QaA{X:Cx}{pins:List (Addr×Obj)}{σ:St}{H:Hp}{s:Shared}{a:Addr}{y:V}{o:Option V}(I:Inv X pins σ H s)(g:DGet H a y o):s.TypeIs (.ref a) "dict":=by
 rcases g with⟨kvs,k,e,_,_⟩ | ⟨kvs,k,b,e,_,_,_⟩
 ·obtain⟨_,_,vs,_,dd⟩:=Qda I.hok e
  exact dd.typeIs
 ·obtain⟨_,_,xs,_,dd⟩:=QeG I.hok e
  exact dd.typeIs
section
variable {X:Cx}{o i e value:Expr}{pos pos' tpos:Pos}{td ty tv:TE}
end
theorem Qbe{P:Program}{w:World}{H:Hp}(h:Heap)(hb:sysModules<h.objs.size):ObjOk P w H (h.push { cls:=.type "dict",data:=.dict #[] }) h.objs.size (.dK []):=
 ⟨Nat.zero_le _,beq_eq_false_iff_ne.mpr (Ne.symm (Nat.ne_of_lt hb)),[],.nil,Heap.DictOf.new h⟩
theorem QeH{P:Program}{w:World}{H:Hp}(h:Heap)(hb:sysModules<h.objs.size):ObjOk P w H (h.push { cls:=.type "dict",data:=.dict #[] }) h.objs.size (.dT []):=
 ⟨Nat.zero_le _,beq_eq_false_iff_ne.mpr (Ne.symm (Nat.ne_of_lt hb)),[],.nil,_,#[],0,Heap.get?_push_size _ rfl,⟨rfl,rfl,rfl⟩,rfl,rfl,List.nodup_nil⟩
noncomputable def Qhv:TE:=fun _ H Q=>∀p,H p=none->Q (.ref p) (upd H p (.dK []))
noncomputable def Qhu:TE:=fun _ H Q=>∀p,H p=none->Q (.ref p) (upd H p (.dT []))
section
variable {X:Cx}{pos:Pos}
theorem Qei:PE X (.Dict [] [] pos) Qhv:=fun pins s σ H Q I h =>
 wpAny_Dict_empty ⟨.ref s.heap.objs.size,_,I.laid (a:=s.heap.objs.size) (o:=.dK []) (t':=s.toks) (fun _ _ q=>Heap.get?_push_of_some _ q) (Nat.le_refl _) (Qbe s.heap I.big),rfl,h _ (I.hok.fresh (Nat.le_refl _))⟩
theorem Qeh:PE X (.Dict [] [] pos) Qhu:=fun pins s σ H Q I h =>
 wpAny_Dict_empty ⟨.ref s.heap.objs.size,_,I.laid (a:=s.heap.objs.size) (o:=.dT []) (t':=s.toks) (fun _ _ q=>Heap.get?_push_of_some _ q) (Nat.le_refl _) (QeH s.heap I.big),rfl,h _ (I.hok.fresh (Nat.le_refl _))⟩
end
noncomputable def QaM:List (TE×TE)->St->Hp->(List (V×V)->Hp->Prop)->Prop
 | [],_,H,Q=>Q [] H
 | (tk,tv)::r,σ,H,Q=>tk σ H fun x H1=>tv σ H1 fun y H2=>QaM r σ H2 fun ps H3=>Q ((x,y)::ps) H3
noncomputable abbrev VV:List (V×V)->List (Value×Value)->Prop:=Paired fun p q=>RelV p.1 q.1/\RelV p.2 q.2
noncomputable def PPs(X:Cx)(pos:Pos)(keys:List (Option Expr))(values:List Expr)(trs:List (TE×TE)):Prop :=
 ∀(pins:List (Addr×Obj)) (s:Shared) (σ:St) (H:Hp) (Q:List (V×V)->Hp->Prop),Inv X pins σ H s->QaM trs σ H Q ->
  wpAny (model X.prog X.w) X.A (evalPairs (pairTrees keys values X.env pos)) (fun vs s'=>∃ps H',Inv X pins σ H' s'/\VV ps vs/\Q ps H') X.xe s
theorem Qf4{X:Cx}{pos:Pos}:PPs X pos [] [] []:=fun pins s σ H Q I h=>pairTrees_nil_walk ⟨[],H,I,.nil,h⟩
theorem Qed{X:Cx}{pos:Pos}{k v:Expr}{ks:List (Option Expr)}{vs:List Expr}{tk tv:TE}{trs:List (TE×TE)}(hk:PE X k tk)(hv:PE X v tv)(hr:PPs X pos ks vs trs):
  PPs X pos (some k::ks) (v::vs) ((tk,tv)::trs):=fun pins s σ H Q I h =>
 pairTrees_cons_walk (thn (hk pins s σ H _ I h) fun u s1 ⟨x,H1,I1,rx,q1⟩=>thn (hv pins s1 σ H1 _ I1 q1) fun w2 s2 ⟨y,H2,I2,ry,q2⟩=>
  thn (hr pins s2 σ H2 _ I2 q2) fun ws s3 ⟨ps,H3,I3,rel,q3⟩=>⟨(x,y)::ps,H3,I3,.cons ⟨rx,ry⟩ rel,q3⟩)
noncomputable def YR(kvs more:List (Key×V)):List (Key×V):=more.foldl (fun acc kv=>Qca acc kv.1 kv.2) kvs
theorem KV.merge:∀{more:List (Key×V)} {rs:List (Key×Value)} {kvs:List (Key×V)} {vs:List (Key×Value)},KV more rs->KV kvs vs->KV (YR kvs more) (merged vs rs):=by
 intro more rs kvs vs r
 unfold KV at r
 induction r generalizing kvs vs with
 | nil=>intro q;exact q
 | @cons p q ps qs h t ih =>
  intro r0
  have e:KV (Qca kvs p.1 p.2) (stored vs q.1 q.2):=by
   have:=r0.put p.1 h.2
   rw [<-h.1];exact this
  exact ih e
theorem ZW:∀(more kvs:List (Key×V)),(YR kvs more).length<=kvs.length+more.length
 | [],kvs=>by show kvs.length<=kvs.length+0;lia
 | p::r,kvs=>by
  have h1:=ZW r (Qca kvs p.1 p.2)
  have h2:=Qan kvs p.1 p.2
  show(YR (Qca kvs p.1 p.2) r).length<=_
  rw [List.length_cons];lia
theorem Y0{P:Program}{w:World}:∀{kvs:List (Key×V)} {ws:List (Value×Value)},VV (kvs.map fun kv=>(kV kv.1,kv.2)) ws->∃rs,Carries (QB P w) ws rs/\KV kvs rs
 | [],_,r=>by rw [List.map_nil]at r;cases r;exact⟨[],True.intro,.nil⟩
 | p::kvs,_,r=>by
  rw [List.map_cons]at r
  cases r with
  | @cons a b as bs h t =>
   obtain⟨rs,c,q⟩:=Y0 (P:=P) (w:=w) t
   obtain⟨b1,b2⟩:=b
   exact⟨(p.1,b2)::rs,⟨JJ h.1,rfl,c⟩,.cons ⟨rfl,h.2⟩ q⟩
noncomputable def QjJ(trs:List (TE×TE)):TE:=fun σ H Q=>∀p,H p=none->QaM trs σ (upd H p (.dK [])) fun ps H2=>H2 p=some (.dK [])/\∃kvs:List (Key×V),ps=kvs.map (fun kv=>(kV kv.1,kv.2))/\kvs.length<=15/\Q (.ref p) (upd H2 p (.dK (YR [] kvs)))
theorem Qgd{X:Cx}{pos:Pos}{keys:List (Option Expr)}{values:List Expr}{trs:List (TE×TE)}(h:PPs X pos keys values trs)(hall:keys.all (·.isSome)=true)(hl:keys.length=values.length)(h0:keys≠[])
  (h15:keys.length<=15):PE X (.Dict keys values pos) (QjJ trs):=by
 intro pins s σ H Q I q
 have hn:=I.hok.fresh (Nat.le_refl s.heap.objs.size)
 have I1:=I.laid (a:=s.heap.objs.size) (o:=.dK []) (h':=s.heap.push { cls:=.type "dict",data:=.dict #[] }) (t':=s.toks) (fun _ _ q=>Heap.get?_push_of_some _ q) (Nat.le_refl _) (Qbe s.heap I.big)
 refine wpAny_Dict_walk (knd:=QB X.prog X.w) hall hl h0 h15 (thn (h pins _ σ _ _ I1 (q _ hn)) fun ws s2 ⟨ps,H2,I2,rel,e,kvs,ep,lk,q2⟩=>?_)
 subst ep
 obtain⟨rs,c,rk⟩:=Y0 (P:=X.prog) (w:=X.w) rel
 obtain⟨z,hd,vs0,r0,dd⟩:=QgM I2.hok e
 cases r0
 refine⟨rs,c,dd,fun h' dd' hs=>⟨.ref s.heap.objs.size,_,?_,rfl,q2⟩⟩
 have hz:(YR [] kvs).length<=sizeLine:=by
  have h1:=ZW kvs []
  rw [List.length_nil]at h1
  rw [sizeLine_eq];lia
 have he:∃q,h'.get? s.heap.objs.size=some q:=let ⟨q,_,_,hq,_⟩:=dd';⟨q,hq⟩
 exact QgP I2 (by rw [e];exact True.intro) hs he (QiS hz hd (rk.merge .nil) dd')
section
variable {X:Cx}{pins:List (Addr×Obj)}{σ:St}{H:Hp}{s:Shared}{a:Addr}{y d:V}{u r:Value}{o:Option V}{A:Around}{E:Value->Shared->Prop}
end
section
variable {X:Cx}{o e f:Expr}{apos cpos:Pos}{td ty tx:TE}
end
section
variable {X:Cx}{pins:List (Addr×Obj)}{σ:St}{H:Hp}{s:Shared}{a:Addr}{kvs:List (Key×V)}{A:Around}{E:Value->Shared->Prop}
end
section
variable {X:Cx}{pins:List (Addr×Obj)}{σ:St}{H:Hp}{s:Shared}{a:Addr}{y:V}{u:Value}{A:Around}{E:Value->Shared->Prop}
end
end L2
namespace Att
open PySem PySem.W PySem.Calls PyProof.Rows
theorem Yx{P:Params}{h:Heap}:∀(ns:List Int) (vs:List Value),WellAll P h vs (ns.map WData.int)->IntsAre vs ns:=by
 intro ns
 induction ns with
 | nil =>
  intro vs w
  rw [List.map_nil]at w
  cases w
  exact .nil
 | cons n ns ih =>
  intro vs w
  rw [List.map_cons]at w
  cases w with
  | cons a b =>
   cases a
   exact .cons _ _ (ih _ b)
theorem Qb3{l:OpenLaw}{n:Nat}(hn:l.most=some n){P:Params}{h:Heap}{args:List WData}{vals:List Value}
  (hpre:l.row.toRowW.claim.pre args=true) (hwl:WellAll P h vals args):
  ∃ a vs ns, vals = [Value.ref a] /\ args = [WData.list (ns.map WData.int)] /\ h.get? a = some { cls := .type "list", data := .seq vs.toArray } /\ IntsAre vs ns /\ ns.length <= n := by
 have hsh:WShape.hasAll [] args [.list .int]=true:=(pre_splitW hpre).1
 have hc:l.pre.holds [] { args:=args }=true:=(pre_splitW hpre).2
 obtain⟨d,r,rfl,h1,h2⟩:=hasAllW_cons hsh
 obtain rfl:=hasAllW_nil h2
 obtain⟨xs,rfl,h3⟩:=hasW_list h1
 obtain⟨ns,rfl⟩:=items_int h3
 have hlen:ns.length<=n:=by
  unfold OpenLaw.pre at hc
  have h4:(WTm.not (.lt (.lit (.int (n:Int))) (.len (.arg 0)))).holds [] { args:=[.list (ns.map .int)] }=true:=by
   have h4:=(holds_andW hc).1
   rw [hn]at h4
   exact h4
  have h5:=condW_of h4 (w_not (w_lt w_lit (w_len_list (w_arg rfl))))
  rw [List.length_map]at h5
  refine Nat.le_of_not_lt fun q=>?_
  have q':(n:Int) < ((ns.length:Nat):Int):=by lia
  first
   | (rw [decide_eq_true q']at h5;exact absurd h5 (by decide))
   | (simp at h5;lia)
 cases hwl with
 | cons w1 w2 =>
  cases w2
  cases w1 with
  | list ho hall=>exact⟨_,_,ns,rfl,rfl,ho,Yx ns _ hall,hlen⟩
theorem Qcg(l:OpenLaw)(args:List WData):l.row.toRowW.claim.post args (.bool true) args=true :=
 postW_of (r:=l.row.toRowW) (X:=(true==true))
  (show WShape.has [] (.bool true) .bool=true by first | rfl | decide | simp [WShape.has,WShape.arms,WShape.armsAll])
  (show(WTm.eq .res (.lit (.bool true))).value [] { args:=args,res:=some (.bool true),after:=args }=some (.bool (true==true))from w_eq_bool (w_res rfl) w_lit) rfl
theorem attach_call{l:OpenLaw}{n:Nat}{q:Program}{loose:List Str}{XP:(Str->Option Value)->Heap->Prop}{YP:World->Heap->Prop}{d:DefRec}
  (hn:l.most=some n) (hdf:d.params.defaults=[])
  (call:∀(w:World) (s₀ s₁:Shared) (mg mb:Str->Option Value) (fa:Addr) (o:Obj) (pm cd doc:Value) (a:Addr) (vs:List Value) (ns:List Int),
   Ground q loose [] XP w s₀ mg mb s₁.heap->YP w s₁.heap ->
   s₁.heap.get? fa=some o->o.data=.func (docDef d.name d.params d.body d.scope pm cd doc)->s₁.heap.CodeRec cd d.name->mg d.name=some (.ref fa) ->
   s₁.heap.get? a=some { cls:=.type "list",data:=.seq vs.toArray }->IntsAre vs ns->ns.length<=n->s₁.gens=#[] ->
   codeAny (model l.prog w) callerA (.call (.ref fa) ⟨[.ref a],[]⟩) (fun r s'=>r=.ok (.ret (.bool true))/\OldK s₁.heap s'.heap/\s'.os=s₁.os/\AllBare s'.gens) s₁):
  WalkO q loose XP YP l.row.toRowW d [] (fun f vs=>PySem.call f vs):=by
 intro w s₀ s₁ mg mb G Y fa o pm cd doc dV kV ho hd hcd hD hmg hg args vals as hpre hlay hrd hwl hlo
 obtain rfl:dV=.none:=Dflts.none hD hdf
 obtain rfl:kV=.none:=Dflts.noKw hD
 obtain⟨a,vs,ns,rfl,rfl,hobj,hints,hlen⟩:=Qb3 hn hpre hwl
 refine enter_call (codeAny_mono (call w s₀ s₁ mg mb fa o pm cd doc a vs ns G Y ho (fd_plain hd) hcd hmg hobj hints hlen hg) fun r s' hq=>?_)
 obtain⟨rfl,h2,h3,h4⟩:=hq
 exact⟨.inl ⟨.bool true,.bool true,[],rfl,fun _=>rfl,.bool true,Qcg l _,fun _=>⟨List.Pairwise.nil,fun _ hm=>(nomatch hm)⟩⟩,h2,h3,h4⟩
section
variable {prog:Program}{w:World}{A:Around}{E:Value->Shared->Prop}{s:Shared}{K:Frag}
end
end Att
namespace L2
open PySem PySem.Spec PyProof.Rows
theorem Jq:∀{vs:List Value} {ns:List Int},IntsAre vs ns->Vals (ns.map V.int) vs
 | _,_,.nil=>.nil
 | _,_,.cons n t h=>.cons ⟨t,rfl⟩ (Jq h)
noncomputable def Qjx(H:Hp):Prop:=∀b,H b=none\/∃o xs,H b=some (.frz o (.lst xs))
theorem Qet{P:Program}{w:World}{K:PySem.W.Frag}{mg mb:Str->Option Value}{CX:CXT}{k:Nat}{fa a:Addr}{fd:FuncData}{x:Str}{sp:Sp}{s₁:Shared}{vs:List Value}{ns:List Int}
  (KX:K.In s₁.heap) (hns:s₁.heap.Ns mainGlobals mg) (hb:s₁.heap.Ns builtinsNs mb) (hbb:∀x:Str,x≠"__name__"->mb x=bootBuiltins x) (hlim:s₁.heap.NoLimit) (hg:s₁.gens=#[])
  (ha:s₁.heap.get? a=some { cls:=.type "list",data:=.seq vs.toArray }) (hi:IntsAre vs ns) (hl:ns.length<=sizeLine) (hr:Room k callerA)
  (F:∀base:Heap,K.In base->base.Ns mainGlobals mg->FnOk P w K mg base CX k fa fd [x] sp) (hbind:∀(s:Shared) (u:Value),BindsTo s fd ⟨[u],[]⟩ [(x,u)])
  (hsp:∀H:Hp,Qjx H->SqL K H a (ns.map V.int)->sp [.ref a] H (fun v _=>v=.bl true) fun _ _ _=>False)
  (hCX:∀H e s',CX [] H s₁ (fun _ _ _=>False) e s'->False):
  codeAny (model P w) callerA (.call (.ref fa) ⟨[.ref a],[]⟩) (fun r s'=>r=.ok (.ret (.bool true))/\OldK s₁.heap s'.heap/\s'.os=s₁.os/\AllBare s'.gens) s₁:=by
 have rv:=Jq hi
 have lenV:=hi.length
 -- from an abstract heap in which nothing but the script may be tracked
 have core:∀H:Hp,Qjx H->SqL K H a (ns.map V.int)->HOk P w H s₁.heap->(∀b,H b≠none->b=a)->(H a≠none->K.lookup a=none) ->
   codeAny (model P w) callerA (.call (.ref fa) ⟨[.ref a],[]⟩) (fun r s'=>r=.ok (.ret (.bool true))/\OldK s₁.heap s'.heap/\s'.os=s₁.os/\AllBare s'.gens) s₁:=by
  intro H hO hS hok hA hK
  have base_of:∀{b:Addr} {o:Obj},s₁.heap.get? b=some o->H b=none->(QeA s₁.heap H).get? b=some o:=fun e n=>Qez e n
  have noA:∀{b:Addr} {o:Obj} {es:Array DictEntry} {ep:Nat},s₁.heap.get? b=some o->o.data=.dict es ep->H b=none:=fun {b o es ep} e d=>by
   cases q:H b with
   | none=>rfl
   | some u =>
    have e':b=a:=hA b (by rw [q];simp)
    subst e'
    rw [ha]at e;cases e
    have d':Data.seq vs.toArray _=Data.dict es ep:=d
    cases d'
  have nsK:∀{b:Addr} {m:Str->Option Value},s₁.heap.Ns b m->(QeA s₁.heap H).Ns b m:=fun {b m} ⟨o,es,ep,e,d,r⟩=>⟨o,es,ep,base_of e (noA e d),d,r⟩
  have hKb:K.In (QeA s₁.heap H):=fun b o e=>base_of (KX b o e) (by
   cases q:H b with
   | none=>rfl
   | some u =>
    have e':b=a:=hA b (by rw [q];simp)
    subst e'
    rw [hK (by rw [q];simp)]at e;cases e)
  have hM:Mod K mg (QeA s₁.heap H):=⟨hKb,nsK hns,⟨mb,nsK hb,hbb⟩,let ⟨mc,h1,h2⟩:=hlim;⟨mc,nsK h1,h2⟩⟩
  have e0:Env0 P w K mg (QeA s₁.heap H) callerA [] s₁ H:=⟨rfl,hM,fun b o e=>Qgp e,Nat.le_of_eq (QcX _ _),trivial,fun b hb=>absurd (show b∈([]:List Addr)from hb) (by simp),hok,.of_eq hg⟩
  refine codeAny_mono ((F _ hKb (nsK hns)).run callerA [] s₁ H ⟨[.ref a],[]⟩ [.ref a] [.ref a] _ _ hr e0 (hbind s₁ (.ref a)) (.cons rfl .nil) (hsp H hO hS)) fun r s' h=>?_
  cases r with
  | error e=>exact(hCX H e s' h).elim
  | ok fl =>
   cases fl with
   | next=>exact False.elim h
   | brk=>exact False.elim h
   | cont=>exact False.elim h
   | ret u =>
    obtain⟨v,H',os,bare,un,hok',r',q⟩:=h
    have q':v=.bl true:=q
    subst q'
    obtain rfl:u=Value.bool true:=r'
    refine⟨rfl,OldK.of_keep fun b o e=>?_,os,bare⟩
    cases q:H b with
    | none=>exact un.keep b o e q (by intro z;exact absurd (show b∈([]:List Addr)from z) (by simp)) (by simp)
    | some u =>
     rcases hO b with z | ⟨ob,xs,z⟩
     ·rw [q]at z;cases z
     ·have z2:=un.frzs b ob _ z
      obtain⟨e1,_⟩:=hok b _ z
      obtain⟨e2,_⟩:=hok' b _ z2
      rw [e]at e1;cases e1
      exact e2
 cases hk:K.lookup a with
 | some o =>
  -- the script is one of the module's own objects
  have e:=KX a o hk
  rw [ha]at e
  cases e
  refine core (fun _=>none) (fun _=>.inl rfl) (.inr ⟨_,vs.toArray,_,hk,rfl,rfl,rfl,by rw [List.size_toArray,lenV];exact hl,by simpa using rv⟩) (fun b u z=>by have z':(none:Option HO)=some u:=z;cases z') (fun b z=>absurd rfl z) fun z=>absurd rfl z
 | none =>
  refine core (fun b=>if b=a then some (.frz { cls:=.type "list",data:=.seq vs.toArray } (.lst (ns.map V.int)))else none) (fun b=>?_) (.inl (.inr ⟨{ cls:=.type "list",data:=.seq vs.toArray },if_pos rfl⟩)) (fun b u z=>?_) (fun b z=>?_) fun _=>hk
  ·by_cases hb:b=a
   ·exact .inr ⟨_,_,if_pos hb⟩
   ·exact .inl (if_neg hb)
  ·by_cases hb:b=a
   ·have z':=(if_pos hb).symm.trans z
    cases z'
    subst hb
    exact⟨ha,by rw [List.length_map];exact hl,vs,_,rv,ha⟩
   ·have z':=(if_neg hb).symm.trans z
    cases z'
  ·by_cases hb:b=a
   ·exact hb
   ·exact absurd (if_neg hb) z
end L2
namespace L2
open PySem PySem.Spec PyProof.Rows
noncomputable abbrev KOf{K:PySem.W.Frag}{h:Heap}(_:K.In h):PySem.W.Frag:=K
theorem walk_of{l:PySem.W.OpenLaw}{n k:Nat}{q:Program}{loose:List Str}{XP:(Str->Option Value)->Heap->Prop}{YP:World->Heap->Prop}{d:DefRec}{K:Params->PySem.W.Frag}{CX:World->CXT}{sp:World->Sp}{x:Str}
  (hn:l.most=some n) (hn2:n<=sizeLine) (hdf:d.params.defaults=[]) (hr:Room k callerA)
  (hY:∀(w:World) (h:Heap),YP w h->(K w.params).In h)
  (F:∀(w:World) (mg:Str->Option Value) (fa:Addr) (h:Heap),(K w.params).In h->h.Ns mainGlobals mg->mg d.name=some (.ref fa) ->
   ∃fd:FuncData,(∀(s:Shared) (u:Value),BindsTo s fd ⟨[u],[]⟩ [(x,u)]) /\
    ∀base:Heap,(K w.params).In base->base.Ns mainGlobals mg->FnOk l.prog w (K w.params) mg base (CX w) k fa fd [x] (sp w))
  (hsp:∀(w:World) (H:Hp) (a:Addr) (ns:List Int),ns.length<=n->Qjx H->SqL (K w.params) H a (ns.map V.int)->sp w [.ref a] H (fun v _=>v=.bl true) fun _ _ _=>False)
  (hCX:∀(w:World) (H:Hp) (s:Shared) (e:Value) (s':Shared),CX w [] H s (fun _ _ _=>False) e s'->False):
  PySem.W.WalkO q loose XP YP l.row.toRowW d [] (fun f vs=>PySem.call f vs):=by
 refine Att.attach_call hn hdf fun w s₀ s₁ mg mb fa o pm cd doc a vs ns G Y ho hd hcd hmg hobj hints hlen hg=>?_
 have KX:=hY w _ Y
 obtain⟨fd,hb,hF⟩:=F w mg fa _ KX G.T.g hmg
 exact Qet KX G.T.g G.T.b G.T.builtins G.T.nolimit hg hobj hints (Nat.le_trans hlen hn2) hr hF hb (fun H hO hS=>hsp w H a ns hlen hO hS) fun H e s'=>hCX w H s₁ e s'
end L2
namespace L2
open PySem PySem.Spec PyProof.Rows
noncomputable def QgD(s:Stmt)(j:Nat):Stmt:=match s with
 | .ClassDef _ _ _ body _ _ _ _ _ _ _=>body.getD j (.Pass ⟨0,0,0,0⟩)
 | _=>.Pass ⟨0,0,0,0⟩
noncomputable def Qh(s:Stmt):Arguments:=match s with
 | .FunctionDef _ a _ _ _ _ _ _ _ _=>a
 | _=>{ posonlyargs:=[],args:=[],vararg:=none,kwonlyargs:=[],kw_defaults:=[],kwarg:=none,defaults:=[] }
noncomputable def Qg(s:Stmt):List Stmt:=match s with
 | .FunctionDef _ _ b _ _ _ _ _ _ _=>b
 | _=>[]
noncomputable def Qa(s:Stmt):Scope:=match s with
 | .FunctionDef _ _ _ _ _ _ sc _ _ _=>sc
 | _=>{ kind:=.function,names:=[],isGenerator:=false,isCoroutine:=false }
noncomputable abbrev CX0:CXT:=fun _ _ _ _ _ _=>False
noncomputable abbrev E0:XK:=fun _ _ _=>False
theorem Qcs{X:Cx}:Y3 CX0 X E0:=fun _ _ _ _ _ _ _ h=>h.elim
section
variable {P:Program}{w:World}{K:PySem.W.Frag}{mg:Str->Option Value}{base:Heap}
end
theorem QkC{A:Around}{k:Nat}(hr:Room k A):A.units+1<cLine:=Nat.lt_of_le_of_lt (Nat.add_le_add_left (by decide:1<=64) _) hr.units
section
variable {X:Cx}
end
section
variable {κ:Type}[DecidableEq κ]
end
end L2
namespace Iv
open PySem
noncomputable def QiE(sep:List Nat):List (List Nat)->List Nat
 | []=>[]
 | [x]=>x
 | x::y::r=>x++sep++QiE sep (y::r)
noncomputable def QbY(c:Nat):List Nat->List (List Nat)
 | []=>[[]]
 | a::r=>if a=c then []::QbY c r else match QbY c r with
  | []=>[[a]]
  | p::ps=>(a::p)::ps
theorem pickL{β:Type}(l:List β)(a:Nat):∀k:Nat,(List.range k).filterMap (fun m=>l[a+m]?)=(l.drop a).take k
 | 0=>rfl
 | k+1=>by
  rw [List.range_succ,List.filterMap_append,pickL l a k,List.take_add_one,List.getElem?_drop]
  cases e:l[a+k]?<;>simp [e]
end Iv
namespace L2
open PySem PySem.Spec PyProof.Rows Builtin Builtin.Str
section
variable {X:Cx}
theorem Jt(lo hi:Option Int)(n:Nat):strSliceIndices lo hi 1 n=(List.range (HT.sIx n n hi-HT.sIx n 0 lo)).map (HT.sIx n 0 lo + ·):=by
 have cl:∀(v:Option Int) (d:Nat),(match v with | none=>((d:Nat):Int) | some i=>max 0 (min (if i<0 then i+(n:Int)else i) (n:Int)))=((HT.sIx n d v:Nat):Int):=fun v d=>by
  cases v with
  | none=>rfl
  | some i =>
   rw [<-HT.clip_eq i n d]
   simp only
   split<;>lia
 have e1:(match lo with | none=>(0:Int) | some i=>max 0 (min (if i<0 then i+(n:Int)else i) (n:Int)))=((HT.sIx n 0 lo:Nat):Int):=by
  rw [<-cl lo 0];cases lo<;>rfl
 have c2:=cl hi n
 have key:∀L U:Int,L=((HT.sIx n 0 lo:Nat):Int)->U=((HT.sIx n n hi:Nat):Int)->sliceRange L U 1=(List.range (HT.sIx n n hi-HT.sIx n 0 lo)).map (HT.sIx n 0 lo + ·):=by
  rintro L U rfl rfl
  unfold sliceRange
  have e2:(if(1:Int) > 0 then(if((HT.sIx n 0 lo:Nat):Int) < ((HT.sIx n n hi:Nat):Int)then(((HT.sIx n n hi:Nat):Int) - ((HT.sIx n 0 lo:Nat):Int)+1-1) / 1 else 0)else(if((HT.sIx n 0 lo:Nat):Int) > ((HT.sIx n n hi:Nat):Int)then(((HT.sIx n 0 lo:Nat):Int) - ((HT.sIx n n hi:Nat):Int) - 1-1) / (-1)else 0)).toNat=HT.sIx n n hi-HT.sIx n 0 lo:=by
   rw [if_pos (by decide)]
   split<;>lia
  simp only [e2]
  refine List.map_congr_left fun k _=>?_
  lia
 exact key _ _ e1 c2
theorem Qb1(x:Str)(lo hi:Option Int):(Txt.slice x lo hi).cps.toList=(x.cps.toList.drop (HT.sIx x.length 0 lo)).take (HT.sIx x.length x.length hi-HT.sIx x.length 0 lo):=by
 have hl:x.cps.toList.length=x.length:=by simp [Str.length]
 unfold Txt.slice
 split
 ·rename_i h
  rw [Bool.and_eq_true]at h
  have h:=eq_of_beq h.2
  rw [Jt,List.length_map,List.length_range]at h
  have a:=HT.sIx_le (n:=x.length) (d:=x.length) (Nat.le_refl _) hi
  have e1:HT.sIx x.length 0 lo=0:=by
   by_cases hx:x.length=0
   ·have:=HT.sIx_le (n:=x.length) (d:=0) (Nat.zero_le _) lo
    lia
   ·lia
  rw [e1,List.drop_zero,List.take_of_length_le (by lia)]
 ·rw [Jt,List.filterMap_map]
  show(List.filterMap (fun m=>x.cps[HT.sIx x.length 0 lo+m]?) _)=_
  have e:(fun m=>x.cps[HT.sIx x.length 0 lo+m]?)=fun m=>x.cps.toList[HT.sIx x.length 0 lo+m]?:=by
   funext m
   exact Array.getElem?_toList.symm
  rw [e]
  exact Iv.pickL _ _ _
noncomputable def Qld:V->Option Int->Option Int->Hp->VK->Prop:=fun x lo hi H Q=>∃y,x=.str y/\y.length<=sizeLine/\Q (.str (Txt.slice y lo hi)) H
theorem Qhy:SlR X Qld:=by
 intro pins s σ H x v vl vu lo hi sl Q I rx hs pl pu h
 obtain⟨y,rfl,hz,q⟩:=h
 obtain⟨t,rfl⟩:=rx
 refine⟨"str",_,F.slot_str_getitem.lookup,typeIs_str _ _ _,?_⟩
 have fin:∀(l u:Option (Int×Tok)),l.map (·.1)=lo->u.map (·.1)=hi->s.heap.IsSlice sl l u none->wpAny (model X.prog X.w) X.A (getItem (.str y t) (.ref sl)) (EP X pins σ Q) X.xe s:=by
  rintro l u rfl rfl his
  refine wpAny_getItem_str_slice (l:=l) (u:=u) (st:=none) his rfl ?_
  exact post_val_or_str ⟨Nat.le_trans (Txt.slice_le y _ _) hz,fun t' k=>⟨.str _,H,I.kept (t':=k) fun _ _ e=>e,⟨_,rfl⟩,q⟩⟩
 cases pl with
 | none=>cases pu with
  | none=>exact fin none none rfl rfl hs
  | int j tj=>exact fin none (some (j,tj)) rfl rfl hs
 | int i ti=>cases pu with
  | none=>exact fin (some (i,ti)) none rfl rfl hs
  | int j tj=>exact fin (some (i,ti)) (some (j,tj)) rfl rfl hs
end
end L2
namespace L2
open PySem PySem.Spec PyProof.Rows
section
variable {X:Cx}
theorem JV:∀{bs:List Bool} {us:List Value},Vals (bs.map V.bl) us->∀(i:Nat) v,us[i]?=some v->∃b,bs[i]?=some b/\v=.bool b
 | [],us,r,i,v,e=>by rw [List.map_nil]at r;cases r;simp at e
 | b::bs,us,r,i,v,e=>by
  rw [List.map_cons]at r
  cases r with
  | cons h t =>
   cases(show _=Value.bool b from h)
   cases i with
   | zero=>simp at e;exact⟨b,rfl,e.symm⟩
   | succ i=>simpa using JV t i v (by simpa using e)
theorem QmI(bs:List Bool):((List.range bs.length).any fun i=>(bs[i]?).getD false)=bs.any id:=LSm.range_any bs
theorem Qdq (hc : X.calm = true) : CallR X (.builtin "any") (fun xs H Q => ∃ (a : Addr) (bs : List Bool), xs = [.ref a] /\ SqL X.K H a (bs.map V.bl) /\ Q (.bl (bs.any id)) H) := by
 intro pins s σ H xs us Q I r h
 obtain⟨a,bs,rfl,hq,q⟩:=h
 obtain⟨u,rfl,rx⟩:=Jr r
 cases rx
 obtain⟨its,rr,pl,hz⟩:=I.list hq
 have hl:=pl.isList
 have hlt:a<s.heap.objs.size:=by obtain⟨_,e,_⟩:=hl;exact Heap.lt_size e
 have hlen:=rr.length
 rw [List.length_map]at hlen
 refine call_any_walk (wpAny_pyIter_list hl ?_)
 refine⟨s.heap.objs.size,[s.heap.objs.size,a],[s.heap.objs.size],its.toArray.size,_,_,fun i=>(bs[i]?).getD false,rfl,Walks.list (A:=X.A.in1) (I.ok.hd hc) _ a (Nat.ne_of_lt hlt) its.toArray,
  ⟨⟨_,Heap.get?_push_size _ rfl,rfl,rfl⟩,hl.push _⟩,fun i v s' Q' E' hP hQ=>?_,fun h' tk hk=>?_⟩
 ·obtain⟨b,e,rfl⟩:=JV rr i v (by simpa using hP)
  simp only [e,Option.getD_some]at hQ
  exact wpAny_truthy_bool hQ
 ·have e:((List.range its.toArray.size).any fun i=>(bs[i]?).getD false)=bs.any id:=by
   rw [List.size_toArray,<-hlen];exact QmI bs
  rw [e]
  exact⟨.bl _,H,I.kept (t':=tk) (LSm.kept_iter hk),rfl,q⟩
theorem Qba:∀{ns:List Int} {us:List Value},Vals (ns.map V.int) us->∀(i:Nat) v,us[i]?=some v->∃t,v=.int (ns.getD i 0) t
 | [],us,r,i,v,e=>by rw [List.map_nil]at r;cases r;simp at e
 | n::ns,us,r,i,v,e=>by
  rw [List.map_cons]at r
  cases r with
  | cons h t =>
   obtain⟨k,rfl⟩:=h
   cases i with
   | zero=>simp at e;exact⟨k,e.symm⟩
   | succ i=>simpa using Qba t i v (by simpa using e)
theorem Qag:∀(ns:List Int),preSum (fun i=>ns.getD i 0) ns.length=ns.sum:=by
 have go:∀(k:Nat) (ns:List Int),preSum (fun i=>ns.getD i 0) k=(ns.take k).sum:=by
  intro k
  induction k with
  | zero=>intro ns;simp [preSum]
  | succ k ih =>
   intro ns
   rw [show preSum (fun i=>ns.getD i 0) (k+1)=preSum (fun i=>ns.getD i 0) k+ns.getD k 0 from rfl,ih,List.take_add_one,List.sum_append]
   cases e:ns[k]? with
   | none=>simp [List.getD,e]
   | some v=>simp [List.getD,e]
 intro ns
 rw [go,List.take_of_length_le (Nat.le_refl _)]
theorem Qdn (hc : X.calm = true) : CallR X (.builtin "sum") (fun xs H Q => ∃ (a : Addr) (ns : List Int), xs = [.ref a] /\ SqL X.K H a (ns.map V.int) /\ Q (.int ns.sum) H) := by
 intro pins s σ H xs us Q I r h
 obtain⟨a,ns,rfl,hq,q⟩:=h
 obtain⟨u,rfl,rx⟩:=Jr r
 cases rx
 obtain⟨its,rr,pl,hz⟩:=I.list hq
 have hl:=pl.isList
 have hlt:a<s.heap.objs.size:=by obtain⟨_,e,_⟩:=hl;exact Heap.lt_size e
 have hlen:=rr.length
 rw [List.length_map]at hlen
 refine call_sum_walkG (wpAny_pyIter_list hl ?_)
 refine⟨s.heap.objs.size,[s.heap.objs.size,a],[s.heap.objs.size],its.toArray.size,_,_,fun i=>ns.getD i 0,rfl,Walks.list (A:=X.A.in1) (I.ok.hd hc) _ a (Nat.ne_of_lt hlt) its.toArray,
  ⟨⟨_,Heap.get?_push_size _ rfl,rfl,rfl⟩,hl.push _⟩,fun b hb=>?_,fun i v hP=>Qba rr i v (by simpa using hP),fun h' tk t' hk=>?_⟩
 ·have sz:(s.heap.push { cls:=.type "list_iterator",data:=.fields #[.ref a,.int 0 0] }).objs.size=s.heap.objs.size+1:=Heap.size_push ..
  rcases List.mem_cons.mp hb with rfl | hb
  ·show _<(s.heap.push _).objs.size
   rw [Heap.size_push];exact Nat.lt_succ_self _
  ·obtain rfl:=List.mem_singleton.mp hb
   show _<(s.heap.push _).objs.size
   rw [Heap.size_push];exact Nat.lt_succ_of_lt hlt
 ·have e:preSum (fun i=>ns.getD i 0) its.toArray.size=ns.sum:=by
   rw [List.size_toArray,<-hlen];exact Qag ns
  rw [e]
  exact⟨.int _,H,I.kept (t':=tk) (LSm.kept_iter hk),⟨_,rfl⟩,q⟩
end
end L2
namespace L2
open PySem PySem.Spec PySem.W PyProof.Rows
noncomputable def Qla{α:Type}(lt:Nat->Nat->Bool):KasT α->α
 | .ret a=>a
 | .ask i j k=>Qla lt (k (lt i j))
noncomputable def Qlp:List Int->List Int->Bool
 | [],[]=>false
 | [],_::_=>true
 | _::_,[]=>false
 | x::xs,y::ys=>if x=y then Qlp xs ys else decide (x<y)
noncomputable def ltK(ks:List (List Int))(i j:Nat):Bool:=Qlp (ks.getD i []) (ks.getD j [])
noncomputable def permK(ks:List (List Int))(n:Nat):List Nat:=if n<2 then List.range n else(Qla (ltK ks) (kas_sort n)).toList
section
variable {prog:Program}{w:World}{A:Around}{E:Value->Shared->Prop}{s:Shared}
end
section
variable {X:Cx}
end
end L2
namespace L2
open PySem PySem.Spec PySem.W PyProof.Rows
section
variable {prog:Program}{w:World}{A:Around}{s:Shared}{R:Result->Shared->Prop}{E:Value->Shared->Prop}
end
end L2
namespace L2
open PySem
noncomputable def QbG(cells:List (Str×Addr)):List (Str×NameKind)->List (Str×Addr)->List (Str×Addr)
 | [],cs=>cs
 | (n,k)::r,cs=>QbG cells r (if(k==.free)=true then(match cells.lookup n with | some c=>(n,c)::cs | none=>cs)else cs)
theorem YZ{scope:Scope}{env:Env}(h:∀y∈scope.names,y.2=.free->∃c,env.cells.lookup y.1=some c):closureFor scope env=pure (QbG env.cells scope.names []):=by
 have all:∀(l:List (Str×NameKind)) (cs:List (Str×Addr)),(∀y∈l,y.2=.free->∃c,env.cells.lookup y.1=some c) ->
   (forIn l cs fun(x:Str×NameKind) (r:List (Str×Addr))=>match x with | (name,kind)=>if(kind==NameKind.free)=true then(do let y <-cellOf env name;pure (ForInStep.yield ((name,y)::r)))else(pure (ForInStep.yield r):Sem _))=(pure (QbG env.cells l cs):Sem _):=by
  intro l
  induction l with
  | nil=>intro cs _;simp only [List.forIn_nil];rfl
  | cons p r ih =>
   obtain⟨n,k⟩:=p
   intro cs hy
   rw [List.forIn_cons]
   by_cases hk:(k==NameKind.free)=true
   ·obtain⟨c,hc⟩:=hy (n,k) List.mem_cons_self (by simpa using hk)
    have hc:env.cells.lookup n=some c:=hc
    have e:cellOf env n=pure c:=by unfold cellOf;rw [hc]
    simp only [hk,if_true,e,pure_bind]
    rw [ih _ fun y m=>hy y (List.mem_cons_of_mem _ m)]
    simp only [QbG,hk,if_true,hc]
   ·simp only [hk,Bool.false_eq_true,if_false,pure_bind]
    rw [ih _ fun y m=>hy y (List.mem_cons_of_mem _ m)]
    simp only [QbG,hk,Bool.false_eq_true,if_false]
 have:=all scope.names [] h
 unfold closureFor
 simp only [bind_pure_comp]at this ⊢
 rw [this]
 rfl
theorem JR{cells:List (Str×Addr)}{x:Str}{c:Addr}:∀{l:List (Str×NameKind)} {cs:List (Str×Addr)},(QbG cells l cs).lookup x=some c->cs.lookup x=some c\/cells.lookup x=some c
 | [],_,h=>.inl h
 | (n,k)::r,cs,h=>by
  have h:(QbG cells r (if(k==NameKind.free)=true then(match cells.lookup n with | some c=>(n,c)::cs | none=>cs)else cs)).lookup x=some c:=h
  rcases JR h with h1 | h1
  ·clear h
   by_cases hk:(k==NameKind.free)=true
   ·rw [if_pos hk]at h1
    cases hc:cells.lookup n with
    | none=>rw [hc]at h1;exact .inl h1
    | some c' =>
     rw [hc]at h1
     have h2:List.lookup x ((n,c')::cs)=some c:=h1
     clear h1
     rw [List.lookup_cons]at h2
     cases hx:x==n with
     | true =>
      rw [hx]at h2
      have e:=eq_of_beq hx
      subst e
      exact .inr (hc.trans h2)
     | false=>rw [hx]at h2;exact .inl h2
   ·rw [if_neg hk]at h1
    exact .inl h1
  ·exact .inr h1
theorem Jh{cells:List (Str×Addr)}{x:Str}{c:Addr}(hc:cells.lookup x=some c):∀{l:List (Str×NameKind)} {cs:List (Str×Addr)},((x,NameKind.free)∈l\/cs.lookup x=some c)->(QbG cells l cs).lookup x=some c
 | [],_,h=>by
  rcases h with h | h
  ·cases h
  ·exact h
 | (n,k)::r,cs,h=>by
  show(QbG cells r (if(k==NameKind.free)=true then(match cells.lookup n with | some c=>(n,c)::cs | none=>cs)else cs)).lookup x=some c
  refine Jh (l:=r) hc ?_
  rcases h with h | h
  ·rcases List.mem_cons.mp h with e | h
   ·cases e
    refine .inr ?_
    rw [if_pos (by decide),hc]
    simp [List.lookup_cons]
   ·exact .inl h
  ·refine .inr ?_
   split
   ·split
    ·rename_i c' h'
     rw [List.lookup_cons]
     split
     ·rename_i e
      have e:=eq_of_beq e
      subst e
      exact h'.symm.trans hc
     ·exact h
    ·exact h
   ·exact h
noncomputable def mang(x:Str):Str:=⟨x.cps.push 33⟩
noncomputable def hideN(xs N:List Str):List Str:=N.map fun y=>if xs.contains y then mang y else y
theorem Z0{xs N:List Str}:(hideN xs N).length=N.length:=by unfold hideN;rw [List.length_map]
theorem Qey{xs N:List Str}{i:Nat}{y:Str}(h:(hideN xs N)[i]?=some y):∃z,N[i]?=some z/\((z∈xs/\y=mang z)\/(z∉xs/\y=z)):=by
 unfold hideN at h
 rw [List.getElem?_map,Option.map_eq_some_iff]at h
 obtain⟨z,h1,h2⟩:=h
 refine⟨z,h1,?_⟩
 by_cases c:xs.contains z=true
 ·rw [if_pos c]at h2
  exact .inl ⟨List.contains_iff_mem.mp c,h2.symm⟩
 ·rw [if_neg c]at h2
  exact .inr ⟨fun m=>c (List.contains_iff_mem.mpr m),h2.symm⟩
noncomputable def relN(outer:List (Str×NameKind))(names:List (Str×NameKind)):List (Str×NameKind):=names.map fun(n,k)=>if(k==.free&&outer.lookup n==some .cell)=true then(n,.cell)else(n,k)
theorem Q7{scope:Scope}{env:Env}(h:env.scope.kind=.function):(relabel scope env).names=relN env.scope.names scope.names:=by
 unfold relabel relN
 refine List.map_congr_left fun p _=>?_
 obtain⟨n,k⟩:=p
 simp only [h,beq_self_eq_true,Bool.and_true]
 rfl
theorem ZK{outer:List (Str×NameKind)}{x:Str}:∀{l:List (Str×NameKind)},(relN outer l).lookup x=(l.lookup x).map fun k=>if(k==.free&&outer.lookup x==some .cell)=true then .cell else k
 | []=>rfl
 | (n,k)::r=>by
  have ih:=@ZK outer x r
  show List.lookup x ((if(k==NameKind.free&&outer.lookup n==some .cell)=true then(n,NameKind.cell)else(n,k))::relN outer r)=_
  rw [List.lookup_cons (as:=r)]
  cases hx:x==n with
  | true =>
   have e:=eq_of_beq hx
   subst e
   simp only [List.lookup_cons_self,Option.map_some]
   by_cases z:(k==NameKind.free&&outer.lookup x==some .cell)=true
   ·rw [if_pos z,if_pos z,List.lookup_cons_self]
   ·rw [if_neg z,if_neg z,List.lookup_cons_self]
  | false =>
   split
   ·simp [List.lookup_cons,hx,ih]
   ·simp [List.lookup_cons,hx,ih]
theorem Z9{κ β:Type}[BEq κ][LawfulBEq κ]{l:List (κ×β)}{k:κ}{b:β}(h:l.lookup k=some b):(k,b)∈l:=by
 induction l with
 | nil=>simp at h
 | cons p r ih =>
  obtain⟨a,c⟩:=p
  rw [List.lookup_cons]at h
  split at h
  ·rename_i e
   have e:=eq_of_beq e
   subst e
   cases h
   exact List.mem_cons_self
  ·exact List.mem_cons_of_mem _ (ih h)
section
variable {prog:Program}{w:World}{A:Around}{R:Result->Shared->Prop}{s:Shared}
theorem QdL{E:Value->Shared->Prop}{env:Env}{tl:Option Expr}{Q:Bool->Shared->Prop}(h:match tl with | none=>Q true s | some c=>wpAny (model prog w) A (isTrue c env (eval c env)) Q E s):
  wpAny (model prog w) A (forIn tl.toList true fun c r=>if r=true then do let ok <-isTrue c env (eval c env);pure (ForInStep.yield ok)else pure (ForInStep.yield r)) Q E s:=by
 cases tl with
 | none=>exact wpAny_tests_nil h
 | some c=>exact wpAny_tests_one h
theorem QaC{elt target iter:Expr}{tl:Option Expr}{scope:Scope}{pos:Pos}{it acc:Value}{env:Env}(I:Nat->Shared->Prop)
  (turn:∀n s,I n s->wpAny (model prog w) A (pyNext it) (fun r s₁=>match r with
   | none=>R (.ok .next) s₁
   | some v=>wpAny (model prog w) A (letOwnedTupleGo target it v) (fun _ s₁'=>wpAny (model prog w) A (assign target env v) (fun _ s₂ =>
     wpAny (model prog w) A (forIn tl.toList true fun c r=>if r=true then do let ok <-isTrue c env (eval c env);pure (ForInStep.yield ok)else pure (ForInStep.yield r)) (fun ok s₃=>if ok=true then
      wpAny (model prog w) A (eval elt env) (fun x s₄ =>
       wpAny (model prog w) A (call (.builtin "list.append") [acc, x]) (fun _ s₅ => ∃ m, m < n /\ I m s₅) (notedBy (model prog w) A env fun e s' => R (.error e) s') s₄) (notedBy (model prog w) A env fun e s' => R (.error e) s') s₃
      else ∃m,m<n/\I m s₃) (notedBy (model prog w) A env fun e s'=>R (.error e) s') s₂)
        (notedBy (model prog w) A env fun e s'=>R (.error e) s') s₁') (notedBy (model prog w) A env fun e s'=>R (.error e) s') s₁) (notedBy (model prog w) A env fun e s'=>R (.error e) s') s)
  (n:Nat) (h:I n s):codeAny (model prog w) A (.compLoop (.ListComp elt [⟨target,iter,tl.toList,0⟩] scope pos) 0 it acc env) R s:=by
 refine codeAny_loop rfl I (fun n s hI=>?_) n h
 show wpAny _ A ((compTurn (.ListComp elt [⟨target,iter,tl.toList,0⟩] scope pos) 0 it acc env).onRaise (fun x=>do noteFrame x env;theTreesLotGoes x)) _ _ s
 refine wpAny_noted ?_
 rw [compTurn_list]
 refine wpAny_bind (wpAny_standAt (wpAny_bind (wpAny_mono (turn n s hI) (fun r s₁ h₁=>?_) fun _ _ h'=>h')))
 cases r with
 | none=>exact wpAny_pure h₁
 | some v =>
  refine wpAny_bind (wpAny_mono h₁ (fun _ s₁' h₁'=>?_) fun _ _ h'=>h')
  refine wpAny_bind (wpAny_mono h₁' (fun _ s₂ h₂=>wpAny_bind (wpAny_mono h₂ (fun ok s₃ h₃=>?_) fun _ _ h'=>h')) fun _ _ h'=>h')
  cases ok with
  | true =>
   rw [if_pos rfl]at h₃
   exact wpAny_bind (wpAny_bind (wpAny_mono h₃ (fun x s₄ h₄=>wpAny_bind (wpAny_mono h₄ (fun _ s₅ h₅=>wpAny_pure (wpAny_pure ⟨rfl,h₅⟩)) fun _ _ h'=>h')) fun _ _ h'=>h'))
  | false =>
   rw [if_neg Bool.false_ne_true]at h₃
   exact wpAny_bind (wpAny_pure (wpAny_pure ⟨rfl,h₃⟩))
end
end L2
namespace L2
open PySem PySem.Spec PySem.W PyProof.Rows
noncomputable def KD{α:Type}:Sem α->Prop
 | .pure _=>True
 | .raise _=>True
 | .unsupported _=>True
 | .rule _ k=>KD (k ())
 | .at _ k=>KD (k ())
 | .load _ _ k=>∀o,KD (k o)
 | .loadIfAlive _ k=>∀o,KD (k o)
 | .update _ _ f k=>(∀o:Obj,(f o).dict=o.dict/\(o.isFreed=false->(f o).isFreed=false))/\KD (k ())
 | .point _ k=>KD (k ())
 | .alloc _ k=>∀a,KD (k a)
 | .fresh k=>∀a,KD (k a)
 | .ask k=>∀a,KD (k a)
 | .handled _ k=>∀a,KD (k a)
 | .stack k=>∀a,KD (k a)
 | .thread k=>∀a,KD (k a)
 | _=>False
theorem KD.bind{α β:Type}{f:α->Sem β}(hf:∀a,KD (f a)):∀{m:Sem α},KD m->KD (m.bind f):=by
 intro m
 induction m with
 | pure a=>exact fun _=>hf a
 | raise e=>exact fun _=>trivial
 | unsupported w=>exact fun _=>trivial
 | rule t k ih=>exact fun h=>ih () h
 | «at» t k ih=>exact fun h=>ih () h
 | load a p k ih=>exact fun h o=>ih o (h o)
 | loadIfAlive a k ih=>exact fun h o=>ih o (h o)
 | update a p g k ih=>exact fun h=>⟨h.1,ih () h.2⟩
 | point l k ih=>exact fun h=>ih () h
 | alloc o k ih=>exact fun h a=>ih a (h a)
 | fresh k ih=>exact fun h a=>ih a (h a)
 | ask k ih=>exact fun h a=>ih a (h a)
 | handled o k ih=>exact fun h a=>ih a (h a)
 | stack k ih=>exact fun h a=>ih a (h a)
 | thread k ih=>exact fun h a=>ih a (h a)
 | _=>exact fun h=>False.elim h
noncomputable def DK(h h':Heap):Prop:=∀b o,h.get? b=some o->∃o',h'.get? b=some o'/\o'.dict=o.dict
theorem DK.refl(h:Heap):DK h h:=fun _ o e=>⟨o,e,rfl⟩
theorem DK.trans{h h1 h2:Heap}(a:DK h h1)(b:DK h1 h2):DK h h2:=fun x o e=>by
 obtain⟨o1,e1,d1⟩:=a x o e
 obtain⟨o2,e2,d2⟩:=b x o1 e1
 exact⟨o2,e2,d2.trans d1⟩
theorem DK.kept{h h':Heap}(k:∀b o,h.get? b=some o->h'.get? b=some o):DK h h':=fun b o e=>⟨o,k b o e,rfl⟩
theorem Qkv{α:Type}{M:Model}{Γ:PySem.Ctx}{Q:α->Pos->Shared->Prop}{E:Value->Pos->Shared->Prop}:∀{t:Sem α} {p:Pos} {s:Shared} {h0:Heap},KD t->DK h0 s.heap->Sem.wp M Γ t Q E p s ->
  Sem.wp M Γ t (fun a p' s'=>Q a p' s'/\DK h0 s'.heap) (fun e p' s'=>E e p' s'/\DK h0 s'.heap) p s:=by
 intro t
 induction t with
 | pure a=>exact fun _ d q=>⟨q,d⟩
 | raise e=>exact fun _ d q=>⟨q,d⟩
 | unsupported w=>exact fun _ _ q=>q
 | rule t k ih=>exact fun h d q=>ih () h d q
 | «at» t k ih=>exact fun h d q=>ih () h d q
 | load a p k ih =>
  intro p s h0 h d q
  obtain⟨o,e,q⟩:=q
  exact⟨o,e,ih o (h o) d q⟩
 | loadIfAlive a k ih=>exact fun h d q=>ih _ (h _) d q
 | update a p g k ih =>
  intro p s h0 h d q
  obtain⟨e,q⟩:=q
  refine⟨e,ih () h.2 (d.trans fun b o ho=>?_) q⟩
  by_cases hb:b=a
  ·subst hb
   exact⟨g o,Heap.get?_update_self _ ho ((h.1 o).2 (Heap.get?_some_iff.mp ho).2),(h.1 o).1⟩
  ·exact⟨o,(Heap.get?_update_ne _ _ _ _ hb).trans ho,rfl⟩
 | point l k ih=>exact fun h d q=>ih () h d q
 | alloc o k ih=>exact fun h d q=>ih _ (h _) (d.trans (DK.kept fun b o e=>Heap.get?_push_of_some _ e)) q
 | fresh k ih=>exact fun h d q=>ih _ (h _) d q
 | ask k ih=>exact fun h d q=>ih _ (h _) d q
 | handled o k ih=>exact fun h d q=>ih _ (h _) d q
 | stack k ih=>exact fun h d q=>ih _ (h _) d q
 | thread k ih=>exact fun h d q=>ih _ (h _) d q
 | _=>exact fun h=>False.elim h
theorem YU{α:Type}{M:Model}{A:Around}{t:Sem α}{Q:α->Shared->Prop}{E:Value->Shared->Prop}{s:Shared}(h:KD t)(q:wpAny M A t Q E s):
  wpAny M A t (fun a s'=>Q a s'/\DK s.heap s'.heap) (fun e s'=>E e s'/\DK s.heap s'.heap) s:=fun Γ p i=>Qkv h (DK.refl _) (q Γ p i)
theorem QiD{f:Array Value->Array Value}(o:Obj):(Obj.mapFields f o).dict=o.dict/\(o.isFreed=false->(Obj.mapFields f o).isFreed=false):=by
 obtain⟨c,d,dt,sl⟩:=o
 cases dt<;>exact⟨rfl,fun h=>h⟩
theorem KD.b{α β:Type}{m:Sem α}{f:α->Sem β}(h:KD m)(hf:∀a,KD (f a)):KD (m >>= f):=KD.bind hf h
theorem Qar{a:Addr}:KD (load a):=fun _=>trivial
theorem Ym{e:Value}{i:Nat}:KD (field e i):=by
 unfold field fieldsOf
 refine KD.b ?_ fun vs=>by split<;>exact trivial
 split
 ·exact KD.b Qar fun o=>by split<;>exact trivial
 ·exact trivial
theorem QcN{e:Value}{i:Nat}{x:Value}:KD (setField e i x):=by
 unfold setField
 split
 ·unfold updateField
  refine KD.b Qar fun o=>?_
  split
  ·split
   ·exact⟨QiD,trivial⟩
   ·exact trivial
  ·exact trivial
 ·exact trivial
theorem ZY{e:Value}{f:Option Addr}:KD (setFlight e f):=by
 unfold setFlight
 refine KD.b Ym fun tb=>?_
 split
 ·exact QcN
 ·exact trivial
theorem Qa5:∀l:List Env,KD (readyFrames l)
 | []=>trivial
 | env::outer=>by
  unfold readyFrames
  split
  ·refine KD.b Qar fun o=>?_
   split
   ·exact trivial
   ·refine KD.b ?_ fun im=>KD.b ?_ fun back=>KD.b (show KD (update _ _)from⟨fun o=>⟨rfl,by obtain⟨c,d,dt,sl⟩:=o;cases dt<;>exact fun h=>h⟩,trivial⟩) fun _=>Qa5 outer
    ·unfold behindIsImport
     repeat (first | exact trivial | exact KD.b Ym fun _=>trivial | split | refine KD.b trivial fun _=>?_)
    ·unfold keptBack
     split
     ·split
      ·exact trivial
      ·unfold underTheClaimsCaller
       repeat (first | exact trivial | exact fun _=>trivial | split | refine KD.b ?_ fun _=>?_)
     ·exact trivial
  ·exact trivial
theorem Qev{env:Env}:KD (PySem.frameOf env):=by
 unfold PySem.frameOf frameEnvs
 refine KD.b ?_ fun l=>KD.b ?_ fun o=>by split<;>exact trivial
 ·exact KD.b (fun _=>trivial) fun _=>trivial
 ·unfold frameObject
  split
  ·exact trivial
  ·exact KD.b (Qa5 _) fun _=>trivial
theorem QcO{e:Value}{env:Env}:KD (noteFrame e env):=by
 have place:∀{f:Addr} {b:Bool},KD (entryPlaceOf f b):=fun {f b}=>by
  unfold entryPlaceOf
  exact KD.b (fun _=>trivial) fun acts=>by split<;>exact trivial
 have fin:∀{hd:Value} {f:Addr},KD (do setField e 1 (<-EntryCells.newEntry hd (<-PySem.frameOf env) .none (rawInt f) .none (<-entryPlaceOf f (hd != .none)))):=fun {hd f}=>by
  refine KD.b Qev fun a=>KD.b place fun pl=>KD.b ?_ fun b=>QcN
  unfold EntryCells.newEntry newFields newObj newObjAsIs
  dsimp only
  split<;>split<;>first | exact trivial | exact fun _=>trivial | exact KD.b trivial fun _=>KD.b (fun _=>trivial) fun _=>trivial
 unfold noteFrame
 split
 ·refine KD.b Ym fun hd=>?_
  split
  ·refine KD.b Ym fun fl=>?_
   split
   ·exact trivial
   ·exact KD.b QcN fun _=>fin
  ·exact fin
 ·exact trivial
theorem Qa6{e:Value}{env:Env}:KD (leaving env e):=by
 unfold leaving
 exact KD.b QcO fun _=>ZY
end L2
namespace L2
open PySem PySem.Spec PySem.W PyProof.Rows PySem.Calls PySem.Builtin PySem.Builtin.ObjectAttr PySem.Builtin.Getset_descriptor
structure ErrCls(K:PySem.W.Frag)(C:Addr):Prop where
 ga:findIn K (.ref C) "__getattribute__"=some (some (.builtin "BaseException.__getattribute__"))
 gh:findIn K (.ref C) "__getattr__"=some none
 cl:findIn K (.ref C) "__class__"=some (some (.builtin "object.__class__"))
 gg:specialIn K (.builtin "object.__class__") "__get__"=some (some (.builtin "getset_descriptor.__get__"))
 tk:takesIn K (.builtin "object.__class__")=some true
 sb:subIn K (.ref C) (.type "BaseException")=some true
 so:subIn K (.ref C) (.type "object")=some true
 is:(clsIn K C).isSome=true
noncomputable def Yj(a C:Addr)(dd:Option Addr)(h:Heap):Prop:=∃o vs,h.get? a=some o/\o.cls=.ref C/\o.data=.fields vs/\o.dict=dd
section
variable {prog:Program}{w:World}{A:Around}{E:Value->Shared->Prop}{K:PySem.W.Frag}{h:Heap}{g:Array GenState}{d:Drawn}{t:Nat}{os:OsState}{a C:Addr}{dd:Option Addr}
theorem Yz{M:Model}(p:Yj a C dd h):Looks M h (typeOf (.ref a)) (.ref C):=by
 obtain⟨o,vs,h1,h2,_⟩:=p
 exact h2▸(Looks.ld h1).andThen .now
theorem QeF{M:Model}(Y:ErrCls K C)(X:K.In h):Looks M h (find (.ref a) (.ref C) "__class__") (.bind (.builtin "getset_descriptor.__get__") (.builtin "object.__class__")):=by
 have L1:=looks_findIn (M:=M) X Y.cl
 have L2:Looks M h (getOf (some (.builtin "object.__class__"))) (some (.builtin "getset_descriptor.__get__")):=looks_specialIn X Y.gg
 have L3:Looks M h (dataDescriptor? (some (.builtin "object.__class__")) (some (.builtin "getset_descriptor.__get__"))) (some (.builtin "getset_descriptor.__get__",.builtin "object.__class__")):=by
  unfold dataDescriptor?
  refine(looks_takesIn X Y.tk).andThen ?_
  exact .now
 refine L1.andThen (L2.andThen (L3.andThen ?_))
 exact Looks.tag .now
theorem Qay{R:Result->Shared->Prop}(Y:ErrCls K C)(X:K.In h)(p:Yj a C dd h)(hq:R (.ok (.ret (.ref C))) ⟨h,g,d,t,os⟩):
  codeAny (model prog w) A (.call (.builtin "getset_descriptor.__get__") ⟨[.builtin "object.__class__",.ref a,.ref C],[]⟩) R ⟨h,g,d,t,os⟩:=by
 have L1:=looks_subIn (M:=model prog w) X Y.so
 have L0:=Yz (M:=model prog w) p
 refine codeAny_call_builtin KF.slot_gs.plain KF.entry_gs (KF.slot_gs.check _ _ _ _ _ _ _ _ KF.type_class (KF.args_gs _ _ _) ?_)
 unfold Builtin.«getset_descriptor.__get__» descrGet
 rw [dga_obj]
 refine wpAny_bind (wpAny_pure ?_)
 unfold descrGetter descrCheckInstance descrNameAndClass isInstance
 simp only [KF.owner_class]
 repeat lk
 refine⟨Code.quiet_builtin _ (by decide +kernel),codeAny_builtin KF.entry_class ?_⟩
 unfold Builtin.«object.__class__» shownTypeOf
 repeat lk
 exact hq
theorem JP{M:Model}{nameV:Value}{Q:Unit->Shared->Prop}(Y:ErrCls K C)(X:K.In h)(p:Yj a C dd h)(hq:Q () ⟨h,g,d,t,os⟩):wpAny M A (checkBuiltinCall "BaseException.__getattribute__" ⟨[.ref a,nameV],[]⟩) Q E ⟨h,g,d,t,os⟩:=by
 have hk:builtinKind "BaseException.__getattribute__"=some .slot:=by decide +kernel
 have hsplit:splitId "BaseException.__getattribute__"=some ("BaseException","__getattribute__"):=by decide +kernel
 have ha:=PySem.F.args_bexc_ga (.ref a) nameV
 have L2:Looks M h (isInstance (.ref a) (.type "BaseException")) true:=(Yz p).andThen (looks_subIn X Y.sb)
 simp only [checkBuiltinCall,hk,hsplit]
 refine wpAny_bind (L2.at ?_)
 repeat (first | wp_step)
 exact hq
theorem Qc5{tk:Tok}{Q:Fin->Shared->Prop}(Y:ErrCls K C)(X:K.In h)(p:Yj a C dd h)(hq:Q (.done (.ret (.ref C))) ⟨h,g,d,t,os⟩):
  wpAny (model prog w) A (Builtin.«object.__getattribute__» ⟨[.ref a,.str "__class__" tk],[]⟩) Q E ⟨h,g,d,t,os⟩:=by
 have L0:=Yz (M:=model prog w) p
 have L1:=QeF (M:=model prog w) (a:=a) Y X
 unfold Builtin.«object.__getattribute__»
 refine wpAny_bind (wpAny_pure (wpAny_bind (wpAny_pure (wpAny_bind (L0.at (wpAny_bind (L1.at ?_)))))))
 show wpAny _ _ (holding [_] (call (.builtin "getset_descriptor.__get__") [.builtin "object.__class__",.ref a,.ref C]) >>= ret) _ _ _
 exact wpAny_bind (wpAny_holding (wpAny_call (Qay Y X p (wpAny_pure hq))))
theorem Qc6{Q:Option Value->Shared->Prop}(Y:ErrCls K C)(X:K.In h)(p:Yj a C dd h)(hq:Q (some (.ref C)) ⟨h,g,d,t+1,os⟩):
  wpAny (model prog w) A (getAttr? (.ref a) "__class__") Q E ⟨h,g,d,t,os⟩:=by
 have L0:=Yz (M:=model prog w) p
 have L1:=looks_findIn (M:=model prog w) X Y.ga
 have L2:=looks_findIn (M:=model prog w) X Y.gh
 unfold getAttr? getAttrBy? getAttrBy
 refine wpAny_bind (wpAny_mkText (wpAny_bind (wpAny_attempt (wpAny_holding (wpAny_bind (L0.at (wpAny_bind (L1.at ?_))))))))
 dsimp only
 have hne:¬(onTheHeap (Value.ref C)&&Value.builtin "BaseException.__getattribute__"==Value.builtin "object.__getattribute__")=true:=by
  rw [show(Value.builtin "BaseException.__getattribute__"==Value.builtin "object.__getattribute__")=false from by decide +kernel]
  simp
 rw [if_neg hne]
 unfold getAttrByItsOwn hookBefore
 refine wpAny_bind ?_
 rw [if_pos (show onTheHeap (Value.ref C)=true from rfl)]
 refine L2.at ?_
 refine wpAny_bind (wpAny_attempt (wpAny_holding ?_))
 have f3:=PySem.F.attrBase_ValueError.ga.bind (.ref a)
 show wpAny _ _ (boundAndCalled (.builtin "BaseException.__getattribute__") (.ref a) _) _ _ _
 unfold boundAndCalled
 refine wpAny_bind (wpAny_of_eq f3 ?_)
 refine wpAny_call ?_
 refine codeAny_call_builtin PySem.F.attrBase_ValueError.ga.plain PySem.F.entry_bexc_ga (JP Y X p (Qc5 Y X p ?_))
 show wpAny _ _ (handedOut _) _ _ _
 exact wpAny_pure (wpAny_pure hq)
theorem Qeu(Y:ErrCls K C):KitX K (.ref a) (.ref C) (Yj a C dd) where
 ty:=fun _ _ _ p=>Yz p
 it:=fun _ _ X _=>by
  obtain⟨cdD,hcD⟩:=Option.isSome_iff_exists.mp Y.is
  unfold clsIn at hcD
  split at hcD
  ·rename_i c' d' cd' sl' ho
   intro A' Q' E' s' k q
   unfold isType loadHead
   exact wpAny_bind (wpAny_loadPart (k _ _ (X _ _ ho)) (wpAny_pure q))
  ·cases hcD
 ne:=fun h tp dd its n sl X htp=>by
  obtain⟨cdD,hcD⟩:=Option.isSome_iff_exists.mp Y.is
  refine Bool.eq_false_iff.mpr fun q=>?_
  have e:C=tp:=Value.ref.inj (beq_iff_eq.mp q)
  subst e
  unfold clsIn at hcD
  split at hcD
  ·rename_i c' d' cd' sl' ho
   have z:=(X _ _ ho).symm.trans htp
   cases z
  ·cases hcD
 ca:=fun {_ _ _ _ _ s} X p k=>by
  obtain⟨h,g,d,t,os⟩:=s
  exact Qc6 Y X p k
end
noncomputable def Qc7(a C:Addr)(dd:Option Addr):HO:=.ext (Yj a C dd)
theorem QiN{P:Program}{w:World}{H:Hp}{h:Heap}{a C:Addr}{dd:Option Addr}(p:Yj a C dd h):ObjOk P w H h a (Qc7 a C dd):=by
 refine⟨p,?_,fun h1 h2 q k=>?_⟩
 ·obtain⟨o,_,e,_⟩:=p
  exact⟨o,e⟩
 ·obtain⟨o,vs,e,r⟩:=q
  exact⟨o,vs,k o e,r⟩
theorem Qbd{X:Cx}{pins:List (Addr×Obj)}{σ:St}{H:Hp}{s:Shared}{a C:Addr}{dd:Option Addr}(I:Inv X pins σ H s)(e:H a=some (Qc7 a C dd)):Yj a C dd s.heap :=
 (show ObjOk X.prog X.w H s.heap a (.ext (Yj a C dd))from I.hok a _ e).1
theorem Qdp {X : Cx} : CallR X (.builtin "isinstance") (fun xs H Q => ∃ a c cv C dd b, xs = [.ref a, c] /\ (match c with | .ty n => some (Value.type n) | .ref r => some (.ref r) | _ => none) = some cv /\ H a = some (Qc7 a C dd) /\ ErrCls X.K C /\ PySem.W.kitOne X.K (.ref C) cv = some b /\ Q (.bl b) H) := by
 intro pins s σ H xs us Q I r h
 obtain⟨a,c,cv,C,dd,b,rfl,hc,ha,Y,e,q⟩:=h
 obtain⟨u,w',rfl,rx,rc⟩:=QdM r
 cases(show u=Value.ref a from rx)
 have ec:w'=cv:=by
  cases c with
  | ty n=>cases(show w'=Value.type n from rc);exact Option.some.inj hc
  | ref r0=>cases(show w'=Value.ref r0 from rc);exact Option.some.inj hc
  | _=>cases hc
 subst ec
 exact PySem.W.kia_one (Qeu Y) I.kIn (Qbd I ha) e (fun z=>nomatch z) fun tk=>⟨.bl b,H,I.tok tk,rfl,q⟩
end L2
namespace L2
open PySem PySem.Spec PySem.W PyProof.Rows
structure Cov(B:Heap)(H:Hp)(s:Shared)(l:List Env):Prop where
 trk:∀b u,H b=some u->∃o,B.get? b=some o
 old:∀b o,s.heap.get? b=some o->b∉frs l->∃o',B.get? b=some o'
noncomputable def DictAt(h:Heap)(a:Addr)(dd:Option Addr):Prop:=∃o,h.get? a=some o/\o.dict=dd
theorem DictAt.dk{h h':Heap}{a:Addr}{dd:Option Addr}(d:DictAt h a dd)(k:DK h h'):DictAt h' a dd:=by
 obtain⟨o,e,q⟩:=d
 obtain⟨o',e',q'⟩:=k a o e
 exact⟨o',e',q'.trans q⟩
noncomputable def CXw(P:Program)(w:World):CXT:=fun outer H s E e s'=>∃a C H' B a0 dd,e=.ref a/\s'.os=s.os/\AllBare s'.gens/\Un (frs outer) [] H H' s.heap s'.heap/\HOk P w H' s'.heap /\
 Heap.FlyingW B outer a (.ref C) a0 s'.heap/\Cov B H' s outer/\H' a=none/\s.heap.get? a=none/\DictAt s'.heap a dd/\E (.ref C) dd H'
theorem ObjOk.there{P:Program}{w:World}{H:Hp}{h:Heap}{a:Addr}{o:HO}(x:ObjOk P w H h a o):∃u,h.get? a=some u:=by
 cases o with
 | lst xs=>obtain⟨_,_,_,_,e⟩:=x;exact⟨_,e⟩
 | tup xs=>obtain⟨_,_,_,_,e,_⟩:=x;exact⟨_,e⟩
 | dK kvs=>obtain⟨_,_,_,_,o,_,_,e,_⟩:=x;exact⟨_,e⟩
 | dT kvs=>obtain⟨_,_,_,_,o,_,_,e,_⟩:=x;exact⟨_,e⟩
 | set S n=>obtain⟨o,_,_,_,e,_⟩:=x;exact⟨_,e⟩
 | ins C dx fs=>obtain⟨_,_,_,e,_⟩:=x;exact⟨_,e⟩
 | own y=>obtain⟨_,e⟩:=x;exact⟨_,e⟩
 | xd fs=>obtain⟨_,⟨_,_,_,e,_⟩,_⟩:=x;exact⟨_,e⟩
 | rng lo hi=>obtain⟨_,_,_,e⟩:=x;exact⟨_,e⟩
 | frz ob u=>obtain⟨e,_⟩:=x;exact⟨_,e⟩
 | tbl ps=>exact⟨_,(show h.get? a=some _ from x)⟩
 | met f y=>exact⟨_,(show h.get? a=some _ from x)⟩
 | ext φ=>obtain⟨_,⟨_,e⟩,_⟩:=x;exact⟨_,e⟩
theorem QbP{P:Program}{w:World}{l:List Env}{H H':Hp}{s:Shared}{h1 h2 B base:Heap}(un:Un (frs l) [] H H' s.heap h1)(hok:HOk P w H' h1)(ff:s.heap.FunFrames base l)(fr:∀b∈frs l,H b=none)
  (st1:B.StaysIn h1) (st2:B.StaysIn h2) (up:h1.UpToSlots h2) (cv:Cov B H' s l):Un (frs l) [] H H' s.heap h2/\HOk P w H' h2:=by
 have fsl:∀b o,s.heap.get? b=some o->b∈frs l->∃sl,h2.get? b=some { o with slots:=sl }:=fun b o q hb=>by
  obtain⟨sl,e⟩:=un.slot b o q (fr b hb) hb (by simp)
  obtain⟨_,o2,ho2,hd⟩:=ff.mem hb
  rw [q]at ho2
  cases ho2
  obtain⟨sl',e'⟩:=up b _ e hd
  exact⟨sl',e'⟩
 refine⟨⟨fun b o q n hb hx=>?_,fun b o q n hb hx=>fsl b o q hb,un.free,fun b o q hx=>?_,un.tups,un.frzs,un.tbls⟩,fun a o e=>?_⟩
 ·have e1:=un.keep b o q n hb hx
  obtain⟨o',e2⟩:=cv.old b o q hb
  have e3:=st1 b o' e2
  rw [e1]at e3
  cases e3
  exact st2 b _ e2
 ·by_cases hb:b∈frs l
  ·obtain⟨sl,e⟩:=fsl b o q hb
   exact⟨_,e⟩
  ·obtain⟨o',e2⟩:=cv.old b o q hb
   exact⟨o',st2 b _ e2⟩
 ·refine(hok a o e).stay (fun b u hb q=>?_) (fun _ z=>z) fun _ _ z=>z
  have ht:∃x,H' b=some x:=by
   rcases hb with rfl | z
   ·exact⟨_,e⟩
   ·exact⟨_,z⟩
  obtain⟨x,hx⟩:=ht
  obtain⟨o',e2⟩:=cv.trk b x hx
  have e3:=st1 b o' e2
  rw [q]at e3
  cases e3
  exact st2 b _ e2
section
variable {X:Cx}{pins:List (Addr×Obj)}{σ:St}{H H':Hp}{s s':Shared}{e C:Addr}{dd:Option Addr}{B:Heap}{a0:Value}{E:XK}
theorem Cov.up(I:Inv X pins σ H s)(hex:X.ex=[])(cv:Cov B H' s X.stack):Cov B H' X.s₀ X.outer:=by
 refine⟨cv.trk,fun b o q hb=>?_⟩
 obtain⟨o',e⟩:=I.base.there b o q (by rw [hex];simp)
 refine cv.old b o' e fun z=>?_
 rcases List.mem_cons.mp (I.stkSub b z)with z | z
 ·exact Nat.ne_of_lt (Nat.lt_of_lt_of_le (Heap.lt_size q) I.ok.above) z
 ·exact hb z
theorem QcH{E2:Value->Shared->Prop}{L:Addr}(hst:X.stack=X.env::X.outer)(hf:X.env.frame=some L)(hex:X.ex=[])(J:Inv X pins σ H' s')(fl:Heap.FlyingW B X.stack e (.ref C) a0 s'.heap)(cv:Cov B H' X.s₀ X.outer)
  (hn:H' e=none) (hsz:X.s₀.heap.get? e=none) (da:DictAt s'.heap e dd) (hE:E (.ref C) dd H'):wpAny (model X.prog X.w) X.A (leaving X.env (.ref e)) (fun _ s''=>CXw X.prog X.w X.outer X.H₀ X.s₀ E (.ref e) s'') E2 s':=by
 rw [hst]at fl
 refine wpAny_mono (YU (E:=fun _ _=>False) Qa6 (wpAny_leaves_onW (Q:=fun _ s''=>Heap.FlyingW B X.outer e (.ref C) a0 s''.heap/\s'.heap.UpToSlots s''.heap/\s''.os=s'.os/\s''.gens=s'.gens) (hst▸J.ok.frames) hf fl fun h' fl' up=>⟨fl',up,rfl,rfl⟩)) (fun _ s'' ⟨⟨fl',up,eo,eg⟩,dk⟩=>?_) fun _ _ z=>z.1.elim
 have b:=J.base
 rw [hex]at b
 obtain⟨un,hok⟩:=QbP b J.hok J.ok.funs J.ok.frf fl.1 fl'.1 up cv
 exact⟨e,C,H',B,a0,dd,rfl,eo.trans J.os,eg▸J.bare,un,hok,fl',cv,hn,hsz,da.dk dk,hE⟩
theorem Yw{E2:Value->Shared->Prop}{L:Addr}{oe:Obj}{vs:Array Value}(hst:X.stack=X.env::X.outer)(hf:X.env.frame=some L)(hex:X.ex=[])(I:Inv X pins σ H s)(hn:H e=none)(h0:X.s₀.heap.get? e=none)(hl:e≠X.env.locals)
  (he:s.heap.get? e=some oe) (hc:oe.cls=.ref C) (hd:oe.data=.fields vs) (v0:vs[0]?=some a0) (v1:vs[1]?=some .none) (hE:E (.ref C) oe.dict H):
  wpAny (model X.prog X.w) X.A (leaving X.env (.ref e)) (fun _ s''=>CXw X.prog X.w X.outer X.H₀ X.s₀ E (.ref e) s'') E2 s:=by
 have nf:e∉frs X.stack:=fun z=>by
  rcases List.mem_cons.mp (I.stkSub e z)with z | z
  ·exact hl z
  ·obtain⟨_,o,ho,_⟩:=I.ok.funs.mem z
   rw [h0]at ho
   cases ho
 generalize hB:hideAll s.heap (e::frs X.stack)=B
 have stB:B.StaysIn s.heap:=fun b o q=>of_hideAll _ (hB▸q)
 have ff:s.heap.FunFrames B X.stack:=hB▸funFrames_hide I.stack fun env hm a ha=>List.mem_cons_of_mem _ (List.mem_filterMap.mpr ⟨env,hm,ha⟩)
 have eB:B.get? e=none:=hB▸hideAll_none _ (List.mem_cons_self ..)
 have cv:Cov B H X.s₀ X.outer:=by
  refine⟨fun b u q=>?_,fun b o q hb=>?_⟩
  ·obtain⟨o,ho⟩:=(I.hok b u q).there
   refine⟨o,hB▸hideAll_get _ ho fun z=>?_⟩
   rcases List.mem_cons.mp z with rfl | z
   ·rw [hn]at q;cases q
   ·rw [I.stkFree b z]at q;cases q
  ·obtain⟨o',ho⟩:=I.base.there b o q (by rw [hex];simp)
   refine⟨o',hB▸hideAll_get _ ho fun z=>?_⟩
   rcases List.mem_cons.mp z with rfl | z
   ·rw [h0]at q;cases q
   ·rcases List.mem_cons.mp (I.stkSub b z)with z | z
    ·exact Nat.ne_of_lt (Nat.lt_of_lt_of_le (Heap.lt_size q) I.ok.above) z
    ·exact hb z
 refine wpAny_mono (YU (E:=fun _ _=>False) Qa6 (wpAny_leaving_firstW (base:=B) (Q:=fun _ s''=>Heap.FlyingW B X.outer e (.ref C) a0 s''.heap/\s.heap.UpToSlots s''.heap/\s''.os=s.os/\s''.gens=s.gens) (hst▸I.ok.frames) (hst▸ff) hf he stB eB hd v1 v0 fun h' ⟨k1,⟨_,_,k2⟩,k3,k4⟩=>⟨⟨k1,eB,k2,hc▸k3⟩,k4,rfl,rfl⟩)) (fun _ s'' ⟨⟨fl',up,eo,eg⟩,dk⟩=>?_) fun _ _ z=>z.1.elim
 have b:=I.base
 rw [hex]at b
 obtain⟨un,hok⟩:=QbP b I.hok I.ok.funs I.ok.frf stB fl'.1 up cv
 exact⟨e,C,H,B,a0,oe.dict,rfl,eo.trans I.os,eg▸I.bare,un,hok,fl',cv,hn,h0,DictAt.dk ⟨oe,he,rfl⟩ dk,hE⟩
theorem Qbw{E2:Value->Shared->Prop}{L:Addr}{h':Heap}{vs:List Value}(hst:X.stack=X.env::X.outer)(hf:X.env.frame=some L)(hex:X.ex=[])(I:Inv X pins σ H s)(hx:Heap.MadeExcOf s.heap h' e (.ref C) vs)(hE:E (.ref C) none H):
  wpAny (model X.prog X.w) X.A (leaving X.env (.ref e)) (fun _ s''=>CXw X.prog X.w X.outer X.H₀ X.s₀ E (.ref e) s'') E2 { s with heap:=h' }:=by
 have hn:H e=none:=by
  cases q:H e with
  | none=>rfl
  | some u =>
   obtain⟨o,ho⟩:=(I.hok e u q).there
   rw [hx.new]at ho
   cases ho
 have h0:X.s₀.heap.get? e=none:=by
  cases q:X.s₀.heap.get? e with
  | none=>rfl
  | some o =>
   obtain⟨o',ho⟩:=I.base.there e o q (by rw [hex];simp)
   rw [hx.new]at ho
   cases ho
 obtain⟨t,he,_,_⟩:=hx.there
 refine Yw hst hf hex (I.kept (t':=s.toks) hx.keeps) hn h0 (fun z=>?_) he rfl rfl rfl rfl hE
 obtain⟨m,⟨o,_,_,ho,_⟩,_⟩:=I.loc
 rw [<-z,hx.new]at ho
 cases ho
theorem QiL(I:Inv X pins σ H s)(hex:X.ex=[]){v:Value}(h:CXw X.prog X.w X.stack H s E v s'):∃e C H' B a0 dd,v=.ref e/\Inv X pins σ H' s'/\Heap.FlyingW B X.stack e (.ref C) a0 s'.heap/\Cov B H' s X.stack/\H' e=none/\s.heap.get? e=none/\X.s₀.heap.get? e=none/\DictAt s'.heap e dd/\E (.ref C) dd H':=by
 obtain⟨a,C,H',B,a0,dd,e,os,bare,un,hok,fl,cv,hn,hs,da,hE⟩:=h
 refine⟨a,C,H',B,a0,dd,e,I.call' (ch:=[]) os un hok bare (fun b z=>absurd z (by simp)),fl,cv,hn,hs,?_,da,hE⟩
 cases q:X.s₀.heap.get? a with
 | none=>rfl
 | some o =>
  obtain⟨o',ho⟩:=I.base.there a o q (by rw [hex];simp)
  rw [hs]at ho
  cases ho
theorem Inv.adopt{ho:HO}(I:Inv X pins σ H s)(hn:H e=none)(h0:X.s₀.heap.get? e=none)(hL:e≠X.env.locals)(hC:∀x c,X.env.cells.lookup x=some c->c≠e)(hp:∀p∈X.pn++pins,p.1≠e)
  (new:ObjOk X.prog X.w (upd H e ho) s.heap e ho):Inv X pins σ (upd H e ho) s:=by
 have ne:∀b u,H b=some u->b≠e:=fun b u q z=>by rw [z,hn]at q;cases q
 refine⟨I.ok,I.os,I.bare,⟨I.base.keep,I.base.slot,fun b o q n hx=>?_,I.base.there,fun b xs q=>?_,fun b o u q=>?_,fun b ps q=>?_⟩,I.loc,I.cell,?_,fun x c q=>?_,fun p hp'=>?_,fun b u q=>?_,I.len⟩
 ·have hb:b≠e:=fun z=>by rw [z,h0]at q;cases q
  rw [Qb hb]
  exact I.base.free b o q n hx
 ·have z:=I.base.tups b xs q
  rw [Qb (ne _ _ z)]
  exact z
 ·have z:=I.base.frzs b o u q
  rw [Qb (ne _ _ z)]
  exact z
 ·obtain⟨m,z⟩:=I.base.tbls b ps q
  exact⟨m,by rw [Qb (ne _ _ z)];exact z⟩
 ·rw [Qb (Ne.symm hL)]
  exact I.free
 ·rw [Qb (hC x c q)]
  exact I.freeC x c q
 ·obtain⟨a1,a2,a3⟩:=I.pin p hp'
  exact⟨a1,by rw [Qb (hp p hp')];exact a2,a3⟩
 ·by_cases hb:b=e
  ·subst hb
   rw [Qe]at q
   cases q
   exact new
  ·rw [Qb hb]at q
   exact(I.hok b u q).stay (fun c v _ r=>r) (fun c r=>by rw [Qb (ne _ _ r)];exact r) fun c xs r=>by rw [Qb (ne _ _ r)];exact r
theorem Inv.gone{n:Str}{j t:Nat}{m:Str->Option Value}{v:Option Value}{h':Heap}(I:Inv X pins σ H s)(hN:X.N.Nodup)(hj:X.N[j]?=some n)(hk:X.env.scope.names.lookup n=some .local)(hm:s.heap.Ns X.env.locals m)
  (hn:h'.Ns X.env.locals (fun x=>if x=n then v else m x)) (hs:Heap.SameBut X.env.locals s.heap h'):Inv X pins (σ.set j none) H { s with heap:=h',toks:=t }:=by
 obtain⟨m0,hm0,hl⟩:=id I.loc
 obtain⟨oL,_,_,hoL,_⟩:=id hm
 have em:∀x,m0 x=m x:=fun x=>by
  obtain⟨o1,es1,ep1,a1,a2,a3,a4⟩:=hm0
  obtain⟨o2,es2,ep2,b1,b2,b3,b4⟩:=hm
  rw [a1]at b1
  cases b1
  rw [a2]at b2
  cases b2
  rw [<-a4,<-b4]
 refine⟨I.ok,I.os,I.bare,⟨fun b o e n hb hx=>?_,fun b o e n hb hx=>?_,I.base.free,fun b o e hx=>?_,I.base.tups,I.base.frzs,I.base.tbls⟩,⟨_,hn,fun i y v' e1 e2 e3=>?_⟩,fun y c e=>?_,I.free,I.freeC,fun p hp=>?_,fun b ob e=>?_,by simpa using I.len⟩
 ·exact(hs.2 b (Nat.ne_of_lt (Nat.lt_of_lt_of_le (Heap.lt_size e) I.ok.above))).trans (I.base.keep b o e n hb hx)
 ·obtain⟨sl,e1⟩:=I.base.slot b o e n hb hx
  exact⟨sl,(hs.2 b (Nat.ne_of_lt (Nat.lt_of_lt_of_le (Heap.lt_size e) I.ok.above))).trans e1⟩
 ·obtain⟨o',e1⟩:=I.base.there b o e hx
  exact⟨o',(hs.2 b (Nat.ne_of_lt (Nat.lt_of_lt_of_le (Heap.lt_size e) I.ok.above))).trans e1⟩
 ·have hij:i≠j:=fun z=>by
   subst z
   have l:i < σ.length:=by rw [I.len];exact(List.getElem?_eq_some_iff.mp hj).1
   rw [List.getElem?_set_self l]at e2
   cases e2
  rw [List.getElem?_set_ne (Ne.symm hij)]at e2
  obtain⟨u',r',q⟩:=hl i y v' e1 e2 e3
  refine⟨u',r',?_⟩
  rcases q with⟨k,e⟩ | ⟨k,c,e,z⟩
  ·refine .inl ⟨k,?_⟩
   have:y≠n:=fun e=>hij (Ja hN e1 (e▸hj))
   simp [this,<-em,e]
  ·exact .inr ⟨k,c,e,z.sameBut hs (I.cne y c e)⟩
 ·obtain⟨w',z⟩:=I.cell y c e
  exact⟨w',z.sameBut hs (I.cne y c e)⟩
 ·obtain⟨e,n,ne,nf,d⟩:=I.pin p hp
  exact⟨(hs.2 p.1 ne).trans e,n,ne,nf,d⟩
 ·refine(I.hok b ob e).stay (fun c w' hc q=>(hs.2 c ?_).trans q) (fun _ q=>q) fun _ _ q=>q
  rintro rfl
  rcases hc with hc | hc
  ·rw [<-hc,I.free]at e;cases e
  ·rw [I.free]at hc;cases hc
end
end L2
namespace L2
open PySem PySem.Spec PySem.W PyProof.Rows
theorem Qc2{K:PySem.W.Frag}{h:Heap}{C:Addr}{bmB:List Value}{newId:String}(X:K.In h)(q:excIn K C bmB newId=true):
  ∃ bm N nm q bs hdct sn sub ab col dd k0 k1 k2 k3 k5 mN, h.get? C = some (excClassObj nm q C N bs bm hdct sn sub ab col dd k0 k1 k2 k3 k5 newId) /\ h.Ns N mN /\ mN "__init__" = none /\ OwnTail h bmB bm := by
 unfold excIn at q
 split at q
 ·rename_i dd cd sl ho
  split at q
  ·rename_i C' bm k0 k1 k2 k3 n k5 hm hs
   simp only [Bool.and_eq_true,beq_iff_eq,Bool.not_eq_true']at q
   obtain⟨⟨⟨⟨⟨rfl,rfl⟩,hdel⟩,ht⟩,hok⟩,hni⟩:=q
   obtain⟨nm,bs,mro,ns,qn,hd,sn,sub,ab,col,del⟩:=cd
   dsimp only at hm hdel hok hni
   subst hm hdel
   have hsl:sl=#[k0,k1,k2,k3,some (.builtin n),k5]:=by
    obtain⟨l⟩:=sl
    simp only at hs
    rw [hs]
   subst hsl
   exact⟨bm,ns,nm,qn,bs,hd,sn,sub,ab,col,dd,k0,k1,k2,k3,k5,_,X _ _ ho,.of_isNs (isNs_of_in X hok),nsMap_none_of_in X hok hni,tail_of_in X ht⟩
  ·cases q
 ·cases q
noncomputable def Jp:List Value:=[.type "ValueError",.type "Exception",.type "BaseException",.type "object"]
section
variable {X:Cx}{C:Addr}{x:Str}{np cpos pos:Pos}{args:List Expr}{t:TA}{W:Hp->Prop}
noncomputable def QhM(t:TA)(W:Hp->Prop):TS:=fun _ σ H=>t σ H fun vs H1=>vs.length<=sizeLine/\W H1
theorem Qeb{e₀:Expr}{rest:List Expr}(q:excIn X.K C Jp "ValueError.__new__"=true) (hg:Gl X x) (hm:X.mg x=some (.ref C)) (hc:X.calm=true) (ha:PA X (e₀::rest) t)
  (hw:∀pins σ H s h' e vs,Inv X pins σ H s->Heap.MadeExcOf s.heap h' e (.ref C) vs->W H->X.xe (.ref e) { s with heap:=h' })
  (he:starEach (e₀::rest) X.env=(false,eval e₀ X.env)::starEach rest X.env) (hpl:(backTo cpos (starEach rest X.env)).any (·.1)=false) (hdb:(x==("__debug__":Str))=false):
  PS X (.Raise (some (.Call (.Name x np) (e₀::rest) [] cpos)) none pos) (QhM t W):=by
 intro pins s σ H D I h
 obtain⟨tl,N,nm,qn,bs,hdct,sn,sub,ab,col,dd,k0,k1,k2,k3,k5,mN,hC,hN,hni,T⟩:=Qc2 I.ok.mod.kin q
 refine wpAny_Raise_call_subT (C:=C) (nm:=nm) (q:=qn) (N:=N) (bs:=bs) (bm:=tl) (hdct:=hdct) (sn:=sn) (sub:=sub) (ab:=ab) (col:=col) (dd:=dd) (k0:=k0) (k1:=k1) (k2:=k2) (k3:=k3) (k5:=k5)
  PySem.F.excBase_ValueError (mN:=mN) (T.hasType PySem.F.excBase_ValueError.hasBase) (I.ok.hd hc) (by rw [he];show(false||(backTo cpos (starEach rest X.env)).any (·.1))=false;rw [hpl];rfl) hni (Zw I hg hm ⟨rfl,?_⟩ hdb)
 have h':=ha cpos pins s σ H _ I h
 rw [he]at h' ⊢
 refine Calls.evalArgs_plain (wpAny_mono h' (fun us s₂ ⟨vs,H1,I1,r,l,w⟩=>?_) fun _ _ y=>y)
 exact⟨rfl,by rw [<-r.length];exact l,I1.bk _ _ hC,hN.keeps I1.bk,T.keeps I1.bk,fun h' e mx=>hw pins σ H1 s₂ h' e us I1 mx w⟩
theorem Qcf(q:excIn X.K C Jp "ValueError.__new__"=true) (hg:Gl X x) (hm:X.mg x=some (.ref C)) (hc:X.calm=true)
  (hw:∀pins σ H s h' e vs,Inv X pins σ H s->Heap.MadeExcOf s.heap h' e (.ref C) vs->W H->X.xe (.ref e) { s with heap:=h' }) (hdb:(x==("__debug__":Str))=false):
  PS X (.Raise (some (.Call (.Name x np) [] [] cpos)) none pos) (fun _ _ H=>W H):=by
 intro pins s σ H D I h
 obtain⟨tl,N,nm,qn,bs,hdct,sn,sub,ab,col,dd,k0,k1,k2,k3,k5,mN,hC,hN,hni,T⟩:=Qc2 I.ok.mod.kin q
 refine wpAny_Raise_call_subT (C:=C) (nm:=nm) (q:=qn) (N:=N) (bs:=bs) (bm:=tl) (hdct:=hdct) (sn:=sn) (sub:=sub) (ab:=ab) (col:=col) (dd:=dd) (k0:=k0) (k1:=k1) (k2:=k2) (k3:=k3) (k5:=k5)
  PySem.F.excBase_ValueError (mN:=mN) (T.hasType PySem.F.excBase_ValueError.hasBase) (I.ok.hd hc) rfl hni (Zw I hg hm ⟨rfl,?_⟩ hdb)
 exact evalArgs_empty ⟨rfl,Nat.zero_le _,I.bk _ _ hC,hN.keeps I.bk,T.keeps I.bk,fun h' e mx=>hw pins σ H s h' e [] I mx h⟩
end
section
variable {X:Cx}{pins:List (Addr×Obj)}{σ:St}{H H':Hp}{s s':Shared}{e C C':Addr}{dd:Option Addr}{B:Heap}{a0:Value}{x n y:Str}{i j:Nat}{np py pn pa pos:Pos}{Q:Flow->Shared->Prop}{E:Value->Shared->Prop}
noncomputable def Cx.hd(X:Cx)(v:Value):Cx:={ X with A:=X.A.mark (some v),calm:=false }
theorem Inv.hd{v:Value}(I:Inv X pins σ H s):Inv (X.hd v) pins σ H s :=
 ⟨⟨I.ok.mod,I.ok.kind,I.ok.glob,I.ok.blt,I.ok.above,I.ok.inj,I.ok.has,I.ok.cab,(fun z=>nomatch z),I.ok.frames,I.ok.stk,I.ok.exf,I.ok.bs,I.ok.bsz,I.ok.noex,I.ok.exfs,I.ok.funs,I.ok.frf⟩,I.os,I.bare,I.base,I.loc,I.cell,I.free,I.freeC,I.pin,I.hok,I.len⟩
theorem Inv.unhd{v:Value}(ok:X.Ok)(I:Inv (X.hd v) pins σ H s):Inv X pins σ H s:=⟨ok,I.os,I.bare,I.base,I.loc,I.cell,I.free,I.freeC,I.pin,I.hok,I.len⟩
structure Met(X:Cx)(pins:List (Addr×Obj))(σ:St)(H H':Hp)(s s':Shared)(e C:Addr)(dd:Option Addr)(B:Heap)(a0:Value):Prop where
 I:Inv X pins σ H s
 os:s'.os=s.os
 bare:AllBare s'.gens
 un:Un (frs X.stack) [] H H' s.heap s'.heap
 hok:HOk X.prog X.w H' s'.heap
 fl:Heap.FlyingW B X.stack e (.ref C) a0 s'.heap
 cv:Cov B H' s X.stack
 hn:H' e=none
 hs0:s.heap.get? e=none
 h00:X.s₀.heap.get? e=none
 da:DictAt s'.heap e dd
theorem Met.at(M:Met X pins σ H H' s s' e C dd B a0){h2:Heap}(f2:Heap.FlyingW B X.stack e (.ref C) a0 h2)(up:s'.heap.UpToSlots h2)(tk:Nat):Inv X pins σ H' { s' with heap:=h2,toks:=tk }:=by
 obtain⟨un2,hok2⟩:=QbP M.un M.hok M.I.stack M.I.stkFree M.fl.1 f2.1 up M.cv
 exact M.I.call' (s':={ s' with heap:=h2,toks:=tk }) (ch:=[]) M.os un2 hok2 M.bare (fun b z=>absurd z (by simp))
theorem Qfo{h:Heap}{l:List Env}(f:Heap.FlyingW B l e (.ref C) a0 h)(d:DictAt h e dd):Yj e C dd h:=by
 obtain⟨_,_,_,oe,vs,T,oT,ts,he,hc,hd,_⟩:=f
 obtain⟨o,e1,e2⟩:=d
 cases he.symm.trans e1
 exact⟨oe,vs,he,hc.1,hd,e2⟩
theorem Qa1{nm:Option Str}{body:List Stmt}(hst:X.stack=X.env::X.outer)(hf:X.env.frame=some X.env.locals)(M:Met X pins σ H H' s s' e C dd B a0)
  (hg:Gl X x) (hm:X.mg x=some (.ref C')) (hx:exmOne X.K (.ref C) (.ref C')=some true) (hdb:(x==("__debug__":Str))=false)
  (k:∀h₅,Heap.FlyingW B (X.env::X.outer) e (.ref C) a0 h₅->s'.heap.UpToSlots h₅->DictAt h₅ e dd->codeAny (model X.prog X.w) (X.A.mark (some (.ref e))) (.handlers (.ref e) [.ExceptHandler none nm body pos] X.env) (fun r s₂=>match r with
     | .ok f=>(match nm with
      | none=>Q f s₂
      | some n=>wpAny (model X.prog X.w) X.A (do bindName X.env n .none;unbindBehindTheSuite X.env n pos) (fun _ s₃=>Q f s₃) E s₂)
     | .error y=>cameBackBy (model X.prog X.w) X.A X.env E y s₂) { s' with heap:=h₅ }):
  wpAny (model X.prog X.w) X.A (noteFrame (.ref e) X.env) (fun _ s₂=>wpAny (model X.prog X.w) X.A (setFlight (.ref e) none) (fun _ s₃ =>
   wpAny (model X.prog X.w) X.A (handleBy (.ref e) X.env [.ExceptHandler (some (.Name x np)) nm body pos]) Q E s₃) E s₂) E s':=by
 have fl:=M.fl
 rw [hst]at fl
 refine wpAny_mono (YU (E:=fun _ _=>False) QcO (wpAny_looks_onW (Q:=fun _ s''=>∃h₄,s''={ s' with heap:=h₄ }/\Heap.HeldW B (X.env::X.outer) e (.ref C) a0 X.env.locals h₄/\s'.heap.UpToSlots h₄) (hst▸M.I.ok.frames) hf fl fun h₄ x y=>⟨h₄,rfl,x,y⟩)) (fun _ s4 ⟨⟨h₄,e4,hl₄,up₄⟩,dk₄⟩=>?_) fun _ _ z=>z.1.elim
 subst e4
 refine wpAny_mono (YU (E:=fun _ _=>False) ZY (wpAny_landsW (s:={ s' with heap:=h₄ }) (Q:=fun _ s''=>∃h₅,s''={ s' with heap:=h₅ }/\Heap.FlyingW B (X.env::X.outer) e (.ref C) a0 h₅/\h₄.UpToSlots h₅) hl₄ fun h₅ x y=>⟨h₅,rfl,x,y⟩)) (fun _ s5 ⟨⟨h₅,e5,fl₅,up₅'⟩,dk₅⟩=>?_) fun _ _ z=>z.1.elim
 subst e5
 have da₅:=(M.da.dk dk₄).dk dk₅
 have up₅:=up₄.trans up₅'
 have J5:=M.at (hst▸fl₅) up₅ s'.toks
 refine wpAny_handleBy_cons (codeAny_handlers_test ?_) (by intro z;cases z)
 refine Calls.Name_function_global M.I.ok.kind hg (Calls.loadGlobal_global (by rw [M.I.ok.glob];exact J5.mod.glob.keeps J5.bk) hm ?_) hdb
 refine(exm_one (M:=model X.prog X.w) J5.kIn (Yz (Qfo fl₅ da₅)) hx).here ?_
 exact k h₅ fl₅ up₅ da₅
theorem QgR{b₀:Stmt}{body:List Stmt}{W:St->Hp->Prop}(hst:X.stack=X.env::X.outer)(hf:X.env.frame=some X.env.locals)(M:Met X pins σ H H' s s' e C dd B a0)
  (hg:Gl X x) (hm:X.mg x=some (.ref C')) (hx:exmOne X.K (.ref C) (.ref C')=some true) (hdb:(x==("__debug__":Str))=false)
  (hS:∀s7,Inv (X.hd (.ref e)) pins σ H' s7->wpAny (model X.prog X.w) (X.hd (.ref e)).A (execs (b₀::body) X.env) (fun f s8=>f=.next/\∃σ8 H8,Inv (X.hd (.ref e)) pins σ8 H8 s8/\W σ8 H8) (fun _ _=>False) s7)
  (k:∀σ8 H8 s'',W σ8 H8->Inv X pins σ8 H8 s''->Q .next s''):
  wpAny (model X.prog X.w) X.A (noteFrame (.ref e) X.env) (fun _ s₂=>wpAny (model X.prog X.w) X.A (setFlight (.ref e) none) (fun _ s₃ =>
   wpAny (model X.prog X.w) X.A (handleBy (.ref e) X.env [.ExceptHandler (some (.Name x np)) none (b₀::body) pos]) Q E s₃) E s₂) E s':=by
 refine Qa1 hst hf M hg hm hx hdb fun h₅ fl₅ up₅ da₅=>?_
 refine codeAny_handlers_suite ?_
 refine wpAny_mono (YU (E:=fun _ _=>False) ZY (lands_againW (s:={ s' with heap:=h₅ }) (Q:=fun _ s''=>∃h₆,s''={ s' with heap:=h₆ }/\Heap.FlyingW B (X.env::X.outer) e (.ref C) a0 h₆/\h₅.UpToSlots h₆) fl₅ fun h₆ x y=>⟨h₆,rfl,x,y⟩)) (fun _ s6 ⟨⟨h₆,e6,fl₆,up₆⟩,dk₆⟩=>?_) fun _ _ z=>z.1.elim
 subst e6
 have da₆:=da₅.dk dk₆
 have J6:=M.at (hst▸fl₆) (up₅.trans up₆) s'.toks
 refine wpAny_mono (hS _ J6.hd) (fun f s8 ⟨ef,σ8,H8,J8,w⟩=>?_) fun _ _ z=>z.elim
 subst ef
 exact k σ8 H8 s8 w (J8.unhd M.I.ok)
theorem QgS{b₀:Stmt}{body:List Stmt}{W:St->Hp->Prop}(hst:X.stack=X.env::X.outer)(hf:X.env.frame=some X.env.locals)(hN:X.N.Nodup)(M:Met X pins σ H H' s s' e C dd B a0)
  (hg:Gl X x) (hm:X.mg x=some (.ref C')) (hx:exmOne X.K (.ref C) (.ref C')=some true) (hdb:(x==("__debug__":Str))=false)
  (hj:X.N[j]?=some n) (kn:X.env.scope.names.lookup n=some .local)
  (hS:∀s7,Inv (X.hd (.ref e)) pins (σ.set j (some (.ref e))) (upd H' e (Qc7 e C dd)) s7->wpAny (model X.prog X.w) (X.hd (.ref e)).A (execs (b₀::body) X.env) (fun f s8=>f=.next/\∃σ8 H8,Inv (X.hd (.ref e)) pins σ8 H8 s8/\W σ8 H8) (fun _ _=>False) s7)
  (k:∀σ8 H8 s'',W σ8 H8->Inv X pins (σ8.set j none) H8 s''->Q .next s''):
  wpAny (model X.prog X.w) X.A (noteFrame (.ref e) X.env) (fun _ s₂=>wpAny (model X.prog X.w) X.A (setFlight (.ref e) none) (fun _ s₃ =>
   wpAny (model X.prog X.w) X.A (handleBy (.ref e) X.env [.ExceptHandler (some (.Name x np)) (some n) (b₀::body) pos]) Q E s₃) E s₂) E s':=by
 refine Qa1 hst hf M hg hm hx hdb fun h₅ fl₅ up₅ da₅=>?_
 refine codeAny_handlers_suite_as ?_
 refine wpAny_mono (YU (E:=fun _ _=>False) ZY (lands_againW (s:={ s' with heap:=h₅ }) (Q:=fun _ s''=>∃h₆,s''={ s' with heap:=h₆ }/\Heap.FlyingW B (X.env::X.outer) e (.ref C) a0 h₆/\h₅.UpToSlots h₆) fl₅ fun h₆ x y=>⟨h₆,rfl,x,y⟩)) (fun _ s6 ⟨⟨h₆,e6,fl₆,up₆⟩,dk₆⟩=>?_) fun _ _ z=>z.1.elim
 subst e6
 have da₆:=da₅.dk dk₆
 have J6:=M.at (hst▸fl₆) (up₅.trans up₆) s'.toks
 have I:=M.I
 have hs0:=M.hs0
 have cne:∀z c,X.env.cells.lookup z=some c->c≠e:=fun z c q w=>by
  obtain⟨v,o,ho,_⟩:=I.cell z c q
  rw [w,hs0]at ho
  cases ho
 have hL:e≠X.env.locals:=fun w=>by
  obtain⟨m,⟨o,_,_,ho,_⟩,_⟩:=I.loc
  rw [<-w,hs0]at ho
  cases ho
 have hp:∀p∈X.pn++pins,p.1≠e:=fun p q w=>by
  have:=(I.pin p q).1
  rw [w,hs0]at this
  cases this
 have J6':Inv X pins σ (upd H' e (Qc7 e C dd)) { s' with heap:=h₆ }:=J6.adopt M.hn M.h00 hL cne hp (QiN (Qfo fl₆ da₆))
 refine Y5 (v:=.ref e) J6' hN hj (.inl kn) rfl (fun s7 J7=>?_) (.inr kn)
 refine wpAny_mono (hS _ J7.hd) (fun f s8 ⟨ef,σ8,H8,J8,w⟩=>?_) fun _ _ z=>z.elim
 subst ef
 have J8:=J8.unhd I.ok
 obtain⟨m8,hn8,_⟩:=J8.loc
 refine wpAny_nameGoes_keeps kn hn8 (by rw [I.ok.kind];rfl) fun h' v hv hs=>?_
 exact k σ8 H8 _ w (J8.gone (t:=s8.toks+1) hN hj kn hn8 hv hs)
end
end L2
namespace L2
open PySem PySem.Spec PySem.W PyProof.Rows
section
variable {prog:Program}{w:World}{A:Around}{E:Value->Shared->Prop}{h:Heap}{g:Array GenState}{d:Drawn}{t:Nat}{os:OsState}
variable {nm q:Str}{C N:Addr}{bs bm bmB:List Value}{hdct:Bool}{sn:List Str}{sub:List Value}{ab:Bool}{col:Option Bool}{dd:Option Addr}{k0 k1 k2 k3 k5:Option Value}{B newId initId:String}
theorem Qfz(F:ExcBaseFacts B newId initId bmB)(T:OwnTail h bmB bm){mN:Str->Option Value}{us:List Value}{fI:Addr}{oI:Obj}{Q:Fin->Shared->Prop}
  (hC:h.get? C=some (excClassObj nm q C N bs bm hdct sn sub ab col dd k0 k1 k2 k3 k5 newId)) (hn:h.Ns N mN) (hi:mN "__init__"=some (.ref fI)) (hf:h.get? fI=some oI) (hc:oI.cls=.type "function")
  (k:∀h' e,e=h.objs.size+1->Heap.MadeExcOf h h' e (.ref C) us->wpAny (model prog w) A (call (.ref fI) (.ref e::us)) (fun r s'=>r=.none/\Q (.done (.ret (.ref e))) s') E ⟨h',g,d,t,os⟩) (hu:us.length<=sizeLine):
  wpAny (model prog w) A (Builtin.«type.__call__» ⟨.ref C::us,[]⟩) Q E ⟨h,g,d,t,os⟩:=by
 repeat (first | with_reducible refine wpAny_loadPart_at hC ?_ | with_reducible refine wpAny_madeBy_exc hC ?_ | wp_step)
 refine codeAny_call_builtin_code (Code.quiet_builtin _ F.quiet) (wpAny_check_new_subT F T hC (codeAny_exc_new_subT F T hC ?_ hu))
 show wpAny _ _ _ _ _ _
 generalize hh:(h.push { cls:=.type "tuple",data:=.seq us.toArray }).push { cls:=.ref C,data:=.fields #[.ref h.objs.size,.none,.none,.none,.bool false,.none] }=h2
 have kp:∀b o,h.get? b=some o->h2.get? b=some o:=fun b o e=>hh▸Heap.get?_push_of_some _ (Heap.get?_push_of_some _ e)
 have he:h2.get? (h.objs.size+1)=some { cls:=.ref C,data:=.fields #[.ref h.objs.size,.none,.none,.none,.bool false,.none] }:=by subst hh;heap_get
 have ht:h2.get? h.objs.size=some { cls:=.type "tuple",data:=.seq us.toArray }:=hh▸Heap.get?_push_of_some _ (Heap.get?_push_at rfl rfl)
 have T2:=T.keeps kp
 have cC:(Value.ref C::bm).contains (.ref C)=true:=by simp
 unfold isInstance
 repeat (first | with_reducible refine wpAny_loadPart_at he ?_ | (with_reducible refine wpAny_isSubtype_exc (kp _ _ hC) ?_;rw [cC]) | wp_step)
 show wpAny _ _ (typeLookup (.ref C) _) _ _ _
 refine wpAny_typeLookup_tail (kp _ _ hC) (hn.keeps kp) T2 F.mroIs F.init.lookup ?_
 rw [hi]
 refine wpAny_holding (wpAny_bind ?_)
 unfold bindSpecial
 refine wpAny_bind (wpAny_typeOf (T:="function") ⟨_,kp _ _ hf,hc⟩ ?_)
 rw [if_pos (by decide)]
 refine wpAny_pure (wpAny_bind (wpAny_mono (k h2 (h.objs.size+1) rfl ⟨kp,Heap.get?_none_of_le (Nat.le_succ _),h.objs.size,he,Heap.get?_none_of_le (Nat.le_refl _),ht⟩) (fun r s' hr=>?_) fun _ _ x=>x))
 obtain⟨rfl,hQ⟩:=hr
 wp_walk
 exact hQ
theorem QfA(F:ExcBaseFacts B newId initId bmB)(T:OwnTail h bmB bm){mN:Str->Option Value}{us:List Value}{fI:Addr}{oI:Obj}{Q:Value->Shared->Prop}
  (hC:h.get? C=some (excClassObj nm q C N bs bm hdct sn sub ab col dd k0 k1 k2 k3 k5 newId)) (hn:h.Ns N mN) (hi:mN "__init__"=some (.ref fI)) (hf:h.get? fI=some oI) (hc:oI.cls=.type "function")
  (k : ∀ h' e, e = h.objs.size + 1 -> Heap.MadeExcOf h h' e (.ref C) us -> wpAny (model prog w) (A.under (.builtin "type.__call__" ⟨.ref C :: us, []⟩)) (call (.ref fI) (.ref e :: us)) (fun r s' => r = .none /\ Q (.ref e) s') E ⟨h', g, d, t, os⟩) (hu : us.length <= sizeLine) :
  wpAny (model prog w) A (call (.ref C) us) Q E ⟨h,g,d,t,os⟩:=by
 have f1:=tc_lookup
 have f2:=tc_bind (.ref C)
 have hT:(⟨h,g,d,t,os⟩:Shared).TypeIs (.ref C) "type":=⟨_,hC,rfl⟩
 refine wpAny_call (codeAny_of_tree ?_)
 show wpAny _ _ (callAny (.ref C) _) _ _ _
 repeat (any_goals (first | assumption | with_reducible refine wpAny_loadPart_at hC ?_ | wp_step))
 exact⟨rfl,codeAny_call_builtin_at (Code.quiet_builtin _ (by decide +kernel)) entry_typeCall (wpAny_check_type_call_sub hC (Qfz F T hC hn hi hf hc k hu))⟩
end
section
variable {prog:Program}{w:World}{A:Around}{E:Value->Shared->Prop}{s:Shared}{env:Env}
variable {nm q:Str}{C N:Addr}{bs bm bmB:List Value}{hdct:Bool}{sn:List Str}{sub:List Value}{ab:Bool}{col:Option Bool}{dd:Option Addr}{k0 k1 k2 k3 k5:Option Value}{B newId initId:String}
theorem QdK{M:Model}{x:Sem Value}{Q:Flow->Shared->Prop}(hb:bm.contains (.type "BaseException")=true) (hh:A.handled=none)
  (h:wpAny M A x (fun v s₁=>∃e o vs,v=.ref e/\s₁.heap.get? C=some (excClassObj nm q C N bs bm hdct sn sub ab col dd k0 k1 k2 k3 k5 newId)/\s₁.heap.get? e=some o/\o.cls=.ref C/\o.data=.fields vs/\vs[1]?=some .none/\E (.ref e) s₁) E s):
  wpAny M A (raiseStmt env (some x) none) Q E s:=by
 have cB:(Value.ref C::bm).contains (.type "BaseException")=true:=by rw [List.contains_cons,hb,Bool.or_true]
 unfold raiseStmt
 refine wpAny_bind (wpAny_mono h (fun v s₁ h₁=>?_) fun _ _ x=>x)
 obtain⟨e,⟨oc,od,odt,osl⟩,vs,rfl,hC,he,hc,hd,h1,hE⟩:=h₁
 dsimp only at hc hd
 subst hc hd
 obtain⟨hp,g,d,tk,os⟩:=s₁
 repeat (first | with_reducible refine wpAny_loadPart_at he ?_ | with_reducible refine wpAny_loadPart_at hC ?_ | (with_reducible refine wpAny_isSubtype_exc hC ?_;rw [cB]) | with_reducible refine wpAny_field he rfl h1 ?_ | wp_step)
 exact wpAny_raiseNew_none hh hE
end
noncomputable def Qjy(a C:Addr)(dd:Option Addr)(h:Heap):Prop:=∃o vs t0,h.get? a=some o/\o.cls=.ref C/\o.data=.fields vs/\vs[0]?=some (.ref t0)/\vs[1]?=some .none/\o.dict=dd
noncomputable def YQ(a C:Addr)(dd:Option Addr):HO:=.ext (Qjy a C dd)
theorem QcC{P:Program}{w:World}{H:Hp}{h:Heap}{a C:Addr}{dd:Option Addr}(p:Qjy a C dd h):ObjOk P w H h a (YQ a C dd):=by
 refine⟨p,?_,fun h1 h2 q k=>?_⟩
 ·obtain⟨o,_,_,e,_⟩:=p
  exact⟨o,e⟩
 ·obtain⟨o,vs,a0,e,r⟩:=q
  exact⟨o,vs,a0,k o e,r⟩
section
variable {X:Cx}{pins:List (Addr×Obj)}{σ:St}{H:Hp}{s:Shared}{e C:Addr}{dd:Option Addr}
theorem QcD(I:Inv X pins σ H s)(q:H e=some (YQ e C dd)):Qjy e C dd s.heap:=(show ObjOk X.prog X.w H s.heap e (.ext (Qjy e C dd))from I.hok e _ q).1
theorem Inv.drop(I:Inv X pins σ (upd H e (YQ e C dd)) s)(hn:H e=none):Inv X pins σ H s:=by
 have ne:∀b u,u≠YQ e C dd->upd H e (YQ e C dd) b=some u->H b=some u:=fun b u d q=>by
  by_cases hb:b=e
  ·subst hb
   rw [Qe]at q
   cases q
   exact absurd rfl d
  ·rw [Qb hb]at q
   exact q
 have no:∀b,upd H e (YQ e C dd) b=none->H b=none:=fun b q=>by
  by_cases hb:b=e
  ·rw [hb];exact hn
  ·rw [Qb hb]at q;exact q
 refine⟨I.ok,I.os,I.bare,⟨I.base.keep,I.base.slot,fun b o q n hx=>no b (I.base.free b o q n hx),I.base.there,fun b xs q=>ne b _ (fun z=>nomatch z) (I.base.tups b xs q),fun b o u q=>ne b _ (fun z=>nomatch z) (I.base.frzs b o u q),fun b ps q=>?_⟩,I.loc,I.cell,no _ I.free,fun x c q=>no _ (I.freeC x c q),fun p hp=>?_,fun b u q=>?_,I.len⟩
 ·obtain⟨m,z⟩:=I.base.tbls b ps q
  exact⟨m,ne b _ (fun z=>nomatch z) z⟩
 ·obtain⟨a1,a2,a3⟩:=I.pin p hp
  exact⟨a1,no _ a2,a3⟩
 ·have hb:b≠e:=fun z=>by rw [z,hn]at q;cases q
  refine(I.hok b u (by rw [Qb hb];exact q)).stay (fun c v _ r=>r) (fun c r=>ne c _ (fun z=>nomatch z) r) fun c xs r=>ne c _ (fun z=>nomatch z) r
end
section
variable {X:Cx}{C CB:Addr}{x:Str}{np apos pos:Pos}{a b:Expr}{t:TA}
noncomputable def tBI(C:Addr)(t:TA):TE:=fun σ H Q=>t σ H fun vs H1=>∃e v dd,vs=[.ref e,v]/\H1 e=some (YQ e C dd)/\Q .non H1
theorem Qkp{K:PySem.W.Frag}{h:Heap}{N:Addr}{mg:Str->Option Value}{n:Str}{v:Value}(X:K.In h)(G:h.Ns N mg)(e:nsIn K N n=some (some v)):mg n=some v:=by
 obtain⟨o,es,ep,ho,hd,_,hf⟩:=G
 unfold nsIn at e
 split at e
 ·rename_i q
  cases ho.symm.trans (X _ _ q)
  cases hd
  split at e
  ·rename_i en he
   cases e
   rw [<-hf,nsFind,findBy,<-Array.find?_toList,he]
   rfl
  ·split at e<;>cases e
 ·cases e
noncomputable def QbE(K:PySem.W.Frag)(C fI:Addr):Bool:=match K.lookup C with
 | some ⟨.type "type",_,.cls cd,sl⟩=>(match cd.mro,sl.toList with
  | .ref C'::bm,[_,_,_,_,some (.builtin n),_]=>C'==C&&n=="ValueError.__new__"&&!cd.hasDel&&tailIn K Jp bm&&nsOkIn K cd.ns&&nsIn K cd.ns "__init__"==some (some (.ref fI))
  | _,_=>false)
 | _=>false
theorem Qaw{K:PySem.W.Frag}{h:Heap}{C fI:Addr}(X:K.In h)(q:QbE K C fI=true):
  ∃ bm N nm q bs hdct sn sub ab col dd k0 k1 k2 k3 k5 mN, h.get? C = some (excClassObj nm q C N bs bm hdct sn sub ab col dd k0 k1 k2 k3 k5 "ValueError.__new__") /\ h.Ns N mN /\ mN "__init__" = some (.ref fI) /\ OwnTail h Jp bm := by
 unfold QbE at q
 split at q
 ·rename_i dd cd sl ho
  split at q
  ·rename_i C' bm k0 k1 k2 k3 n k5 hm hs
   simp only [Bool.and_eq_true,beq_iff_eq,Bool.not_eq_true']at q
   obtain⟨⟨⟨⟨⟨rfl,rfl⟩,hdel⟩,ht⟩,hok⟩,hni⟩:=q
   obtain⟨nm,bs,mro,ns,qn,hd,sn,sub,ab,col,del⟩:=cd
   dsimp only at hm hdel hok hni
   subst hm hdel
   have hsl:sl=#[k0,k1,k2,k3,some (.builtin "ValueError.__new__"),k5]:=by
    obtain⟨l⟩:=sl
    simp only at hs
    rw [hs]
   subst hsl
   exact⟨bm,ns,nm,qn,bs,hd,sn,sub,ab,col,dd,k0,k1,k2,k3,k5,_,X _ _ ho,.of_isNs (isNs_of_in X hok),Qkp X (.of_isNs (isNs_of_in X hok)) hni,tail_of_in X ht⟩
  ·cases q
 ·cases q
theorem Qej{fI:Addr}{pl:Sem Bool}(hg:Gl X x)(hm:X.mg x=some (.ref CB))(hdb:(x==("__debug__":Str))=false) (q:QbE X.K C fI=true) (h1:specialIn X.K (.ref CB) "__getattribute__"=some (some (.builtin "type.__getattribute__"))) (h2:readsIn X.K CB (.type "type")=true)
  (h3:findCls X.K (.ref CB) (.type "type") "__init__"=some (.val (.builtin "ValueError.__init__"))) (ha:PA X [a,b] t) (hs:starEach [a,b] X.env=[(false,eval a X.env),(false,eval b X.env)])
  (ht:eval (.Call (.Attribute (.Name x np) "__init__" apos) [a,b] [] pos) X.env=(do
   let ov <-eval (.Name x np) X.env
   standAt apos.atName
   let (f,first) <-holding [ov] (getMethod ov "__init__" pl)
   callWith pos f first (backTo pos (starEach [a,b] X.env)) (backToKw pos (keywordEach [] X.env)))):
  PE X (.Call (.Attribute (.Name x np) "__init__" apos) [a,b] [] pos) (tBI C t):=by
 intro pins s σ H Q I h
 refine methodCall_KW (pl:=pl) (Zw I hg hm ?_ hdb) ht
 refine method_cls I.kIn h1 (cls_value I.kIn h2 h3 (by decide +kernel) ?_)
 have I1:=I.tok (s.toks+1)
 have hA:=ha pos pins _ σ H _ I1 h
 rw [hs]at hA ⊢
 refine Calls.callWith_builtin rfl (Calls.evalArgs_plain (wpAny_mono hA (fun us s1 ⟨vs,H1,I1,r,e,v,dd,ev,he,q1⟩=>?_) fun _ _ z=>z))
 subst ev
 obtain⟨u,u2,rfl,ru,_⟩:=QdM r
 cases(show u=Value.ref e from ru)
 obtain⟨bm,N,nm,qn,bs,hdct,sn,sub,ab,col,dd',k0,k1,k2,k3,k5,mN,hC,hN,hi,T⟩:=Qaw I1.kIn q
 obtain⟨⟨oc,od,odt,osl⟩,vs,a0,ho,hc,hd,v0,v1,hdd⟩:=QcD I1 he
 dsimp only at hc hd hdd
 subst hc hd hdd
 obtain⟨hp,g,dw,tk,os⟩:=s1
 refine wpAny_call (codeAny_call_builtin PySem.F.excBase_ValueError.init.plain PySem.F.excBase_ValueError.initEntry (wpAny_check_init_subT PySem.F.excBase_ValueError T hC ho rfl ?_))
 unfold Builtin.«BaseException.__init__» Builtin.BaseException.bexcPut
 repeat (first | with_reducible refine wpAny_field (Heap.get?_push_of_some _ ho) rfl v0 ?_ | with_reducible refine wpAny_setField (Heap.get?_push_of_some _ ho) rfl (Array.getElem?_eq_some_iff.mp v0).1 ?_ | wp_step)
 have up:(hp.push { cls:=.type "tuple",data:=.seq #[u2] }).get? e=some ⟨.ref C,od,.fields vs,osl⟩:=Heap.get?_push_of_some _ ho
 have hd2:=Obj.data_mapFields (o:=⟨.ref C,od,.fields vs,osl⟩) rfl (·.setIfInBounds 0 (Value.ref hp.objs.size))
 have he2:=Heap.get?_update_self (Obj.mapFields (·.setIfInBounds 0 (Value.ref hp.objs.size))) up (Obj.isFreed_of_fields hd2)
 have z0:=(Array.getElem?_eq_some_iff.mp v0).1
 have J:=Inv.write (o:=YQ e C od) (t':=tk) I1 (by rw [he];trivial) (.inl rfl) (fun b u nb q=>(Heap.get?_update_other _ _ (Ne.symm nb)).trans (Heap.get?_push_of_some _ q)) ⟨_,he2⟩
  (QcC ⟨_,_,hp.objs.size,he2,Obj.cls_mapFields _ _,hd2,by simp [z0],by rw [Array.getElem?_setIfInBounds_ne (by decide)];exact v1,rfl⟩)
 have eH:upd H1 e (YQ e C od)=H1:=funext fun b=>by
  by_cases hb:b=e
  ·rw [hb,Qe,he]
  ·rw [Qb hb]
 rw [eH]at J
 exact⟨.non,H1,J,rfl,q1⟩
end
noncomputable def Qcx:List Value->Bool
 | .ref _::r=>Qcx r
 | l=>l==Jp
noncomputable def Jz(K:PySem.W.Frag)(C:Addr):Bool:=(clsIn K C).any fun cd=>Qcx cd.mro&&cd.hasDict
theorem Jv(self:Value):∀{l:List Value},Qcx l=true->refuseLoop self "__setattr__" l=pure ()
 | [],e=>by cases e
 | v::r,e=>by
  cases v with
  | ref c=>rw [refuseLoop_ref];exact Jv self e
  | _=>rw [beq_iff_eq.mp (show(_::r==Jp)=true from e)];exact PySem.F.store_ValueError.passes self
section
variable {prog:Program}{w:World}{A:Around}{E:Value->Shared->Prop}{s:Shared}{K:PySem.W.Frag}{x C:Addr}{name:Str}{v:Value}{vs:Array Value}{sl:Array (Option Value)}{Q:Unit->Shared->Prop}
open Builtin Builtin.ObjectAttr
theorem Qd4(X:K.In s.heap)(Y:ErrCls K C)(hs:findIn K (.ref C) "__setattr__"=some (some (.builtin "object.__setattr__"))) (ho:Jz K C=true) (hf:findIn K (.ref C) name=some none) (hx:s.heap.get? x=some ⟨.ref C,none,.fields vs,sl⟩)
  (h:∀h' d tk,d=s.heap.objs.size->h'.get? x=some ⟨.ref C,some d,.fields vs,sl⟩->h'.Ns1 d (fun y=>if y=name then some v else none)->(∀b o,b≠x->s.heap.get? b=some o->h'.get? b=some o)->Q () { s with heap:=h',toks:=tk }):
  wpAny (model prog w) A (setAttr (.ref x) name v) Q E s:=by
 have I:InstAt s.heap x ⟨.ref C,none,.fields vs,sl⟩ C none:=⟨hx,rfl,rfl,trivial⟩
 obtain⟨cd,hc,hb⟩:=any_some ho
 rw [Bool.and_eq_true]at hb
 refine set_plain X I hs ?_
 have SF:=PySem.F.store_object
 have sub:Looks (model prog w) s.heap (isInstance (.ref x) (.type "object")) true:=I.type.andThen (looks_subIn X Y.so)
 have hm:Looks (model prog w) s.heap (mroOf (.ref C)) cd.mro:=(looks_clsIn X hc).andThen .now
 refine codeAny_call_builtin SF.slot.plain SF.entry (@check_slot (model prog w) _ _ { s with toks:=s.toks+1 } "object.__setattr__" "object" "__setattr__" (.ref x) [.str name s.toks,v] [] _ SF.kind SF.split sub (SF.args (.ref x) (.str name s.toks) v) ?_)
 rw [osa_eq,refuse_eq]
 refine wpAny_bind (wpAny_bind (Looks.here (s:={ s with toks:=s.toks+1 }) I.type (wpAny_bind (Looks.here (s:={ s with toks:=s.toks+1 }) hm ?_))))
 rw [Jv _ hb.1]
 refine wpAny_pure (wpAny_bind (Looks.here (s:={ s with toks:=s.toks+1 }) I.type (wpAny_bind (Looks.here (s:={ s with toks:=s.toks+1 }) (looks_findIn X hf) (wpAny_bind (wpAny_pure ?_))))))
 show wpAny _ _ (storeInOwnDict (.ref x) (.ref C) (.str name s.toks) name v false) _ _ _
 refine wpAny_bind (wpAny_pure (wpAny_bind (wpAny_bind (wpAny_loadPart hx (wpAny_bind (Looks.here (s:={ s with toks:=s.toks+1 }) (looks_clsIn X hc) ?_))))))
 rw [hb.2,if_neg (by decide)]
 show wpAny _ _ (if(!true||!typeHasDict (.ref C))=true then pure none else _) _ _ _
 rw [if_neg (by simp [typeHasDict])]
 have nx:x≠s.heap.objs.size:=Nat.ne_of_lt (Heap.lt_size hx)
 have hx1:(s.heap.push { cls:=.type "dict",data:=.dict #[] }).get? x=some ⟨.ref C,none,.fields vs,sl⟩:=Heap.get?_push_of_some _ hx
 refine wpAny_bind (wpAny_alloc' (wpAny_bind (wpAny_update' hx1 (wpAny_pure ?_))))
 generalize hh:(s.heap.push { cls:=.type "dict",data:=.dict #[] }).update x (fun o=>{ cls:=o.cls,dict:=some s.heap.objs.size,data:=o.data,slots:=o.slots })=h2
 have gx:h2.get? x=some ⟨.ref C,some s.heap.objs.size,.fields vs,sl⟩:=hh▸Heap.get?_update_self _ hx1 rfl
 have gk:∀b o,b≠x->s.heap.get? b=some o->h2.get? b=some o:=fun b o nb e=>hh▸(Heap.get?_update_ne _ _ _ _ nb).trans (Heap.get?_push_of_some _ e)
 have gd:h2.Ns s.heap.objs.size (fun _=>none):=⟨_,#[],_,hh▸(Heap.get?_update_ne _ _ _ _ (Ne.symm nx)).trans (Heap.get?_push_at rfl rfl),rfl,fun e he=>absurd he (by simp),fun _=>rfl⟩
 show wpAny _ _ (storeInDict s.heap.objs.size (.str name s.toks) name v) _ _ _
 unfold storeInDict newKeyGuard
 refine wpAny_bind (wpAny_pure (wpAny_bind (wpAny_nsSet1 (Heap.Ns1.of_empty gd) fun h' hn' hs=>?_)))
 obtain⟨oD,esD,epD,hoD,hdD,hcD⟩:=hn'.count (Within.cons name v Within.nil)
 refine wpAny_bind (wpAny_lookBehind hoD (by rw [hdD];exact pastItsLine_dict (Nat.le_trans hcD (by rw [List.length_cons,List.length_nil,sizeLine_eq];lia))) (wpAny_pure ?_))
 exact h h' _ _ rfl ((hs.2 x nx).trans gx) hn' fun b o nb e=>(hs.2 b (Nat.ne_of_lt (Heap.lt_size e))).trans (gk b o nb e)
end
end L2
namespace L2
open PySem PySem.Spec PySem.W PyProof.Rows PySem.Calls PySem.Builtin PySem.Builtin.ObjectAttr
section
variable {prog:Program}{w:World}{A:Around}{E:Value->Shared->Prop}{K:PySem.W.Frag}{h:Heap}{g:Array GenState}{d:Drawn}{t:Nat}{os:OsState}{a C dx:Addr}{name:Str}{v:Value}{mA:Str->Option Value}
theorem QgG{expr:Bool}{Q:Value->Shared->Prop}(Y:ErrCls K C)(X:K.In h)(hh:hasDictIn K C=true)(ha:findIn K (.ref C) name=some none)(p:Yj a C (some dx) h)(hn:h.Ns1 dx mA)(hv:mA name=some v)(hv':handedIn v=true)
  (hq:Q v ⟨h,g,d,t+1,os⟩):wpAny (model prog w) A (getAttr (.ref a) name expr) Q E ⟨h,g,d,t,os⟩:=by
 obtain⟨od,ho,hl⟩:=JG hn
 have L0:=Yz (M:=model prog w) p
 have L1:=looks_findIn (M:=model prog w) X Y.ga
 have L2:=looks_findIn (M:=model prog w) X Y.gh
 have J:∃ox,InstAt h a ox C (some od):=by
  obtain⟨o,vs,e1,e2,e3,e4⟩:=p
  exact⟨o,e1,e2,by unfold notCls;rw [e3],by rw [e4];exact ho⟩
 obtain⟨ox,J⟩:=J
 have LF:=looks_find (M:=model prog w) X J (findObj_own hh ha rfl (by rw [hl,hv]))
 unfold getAttr getAttrBy
 refine wpAny_bind (wpAny_mkText (wpAny_holding (wpAny_bind (L0.at (wpAny_bind (L1.at ?_))))))
 dsimp only
 have hne:¬(onTheHeap (Value.ref C)&&Value.builtin "BaseException.__getattribute__"==Value.builtin "object.__getattribute__")=true:=by
  rw [show(Value.builtin "BaseException.__getattribute__"==Value.builtin "object.__getattribute__")=false from by decide +kernel]
  simp
 rw [if_neg hne]
 unfold getAttrByItsOwn hookBefore
 refine wpAny_bind ?_
 rw [if_pos (show onTheHeap (Value.ref C)=true from rfl)]
 refine L2.at ?_
 refine wpAny_bind (wpAny_attempt (wpAny_holding ?_))
 unfold callGetattribute
 rw [show(expr&&onTheHeap (Value.builtin "BaseException.__getattribute__"))=false from Bool.and_false _,if_neg (by decide)]
 have f3:=PySem.F.attrBase_ValueError.ga.bind (.ref a)
 unfold boundAndCalled
 refine wpAny_bind (wpAny_of_eq f3 ?_)
 refine wpAny_call ?_
 refine codeAny_call_builtin PySem.F.attrBase_ValueError.ga.plain PySem.F.entry_bexc_ga (JP Y X p ?_)
 unfold Builtin.«object.__getattribute__»
 refine wpAny_bind (wpAny_pure (wpAny_bind (wpAny_pure (wpAny_bind (L0.at (wpAny_bind (LF.at ?_)))))))
 show wpAny _ _ (ret v) _ _ _
 refine wpAny_pure ?_
 show wpAny _ _ (handedOut v) _ _ _
 exact handed_on hv' hq
end
section
variable {X:Cx}{o e value:Expr}{f:Str}{pos pos':Pos}{ta tv:TE}{pins:List (Addr×Obj)}{σ:St}{H:Hp}{s:Shared}
noncomputable def QjH(K:PySem.W.Frag)(ta:TE)(f:Str):TE:=fun σ H Q=>ta σ H fun x H1=>∃a C d od fs v,x=.ref a/\H1 a=some (Qc7 a C (some d))/\H1 d=some (.frz od (.xd fs))/\ErrCls K C/\hasDictIn K C=true/\findIn K (.ref C) f=some none/\fs.lookup f=some v/\Q v H1
theorem Qgc(he:PE X e ta)(hb:attributeBase e f X.env (eval e X.env)=eval e X.env):PE X (.Attribute e f pos) (QjH X.K ta f):=by
 intro pins s σ H Q I h
 refine Qdz hb (thn (he pins s σ H _ I h) fun u s1 ⟨x,H1,I1,rx,a,C,d,od,fs,v,ex,ea,ed,Y,hh,hf,l,q⟩=>?_)
 subst ex
 obtain rfl:u=Value.ref a:=rx
 obtain⟨_,mA,hn,r⟩:=(show ObjOk X.prog X.w H1 s1.heap d (.frz od (.xd fs))from I1.hok d _ ed)
 obtain⟨u,hu,ru⟩:=RelO.some_of (v:=v) (o:=mA f) (by rw [<-l];exact r f)
 obtain⟨hp,g,dw,tk,os⟩:=s1
 exact QgG Y I1.kIn hh hf (Qbd I1 ea) hn hu (JM ru) ⟨v,H1,I1.tok _,ru,q⟩
noncomputable def Qj0(K:PySem.W.Frag)(C:Addr)(ta tv:TE)(f:Str):TS:=fun D σ H=>tv σ H fun y H1=>ta σ H1 fun x H2=>∃a,x=.ref a/\H2 a=some (YQ a C none)/\∀d od,H2 d=none->d≠a->D.nx σ (upd (upd H2 a (YQ a C (some d))) d (.frz od (.xd [(f,y)])))
theorem Qf1{C:Addr}(Y:ErrCls X.K C)(h1:findIn X.K (.ref C) "__setattr__"=some (some (.builtin "object.__setattr__"))) (h2:Jz X.K C=true) (h3:findIn X.K (.ref C) f=some none) (ha:PE X o ta) (hv:PE X value tv)
  (hs:swapsWith value (some (.Attribute o f pos')) pos.line X.env=pure false) (hex:X.ex=[]):PS X (.Assign [.Attribute o f pos'] value pos) (Qj0 X.K C ta tv f):=by
 intro pins s σ H D I h
 refine plainObj_wpAny_Assign_Attribute (thn (hv pins s σ H _ I h) fun u s1 ⟨y,H1,I1,ry,q⟩=>thn (ha pins s1 σ H1 _ I1 q) fun ov s2 ⟨x,H2,I2,rx,a,ex,ea,q2⟩=>?_) hs
 subst ex
 obtain rfl:ov=Value.ref a:=rx
 obtain⟨⟨oc,od,odt,osl⟩,vs,t0,ho,hc,hd,v0,v1,hdd⟩:=QcD I2 ea
 dsimp only at hc hd hdd
 subst hc hd hdd
 refine Qd4 I2.kIn Y h1 h2 h3 ho fun h' d tk ed gx gn gk=>?_
 have sz:s2.heap.objs.size<=d:=Nat.le_of_eq ed.symm
 have dn:s2.heap.get? d=none:=Heap.get?_none_of_le sz
 have hH:H2 d=none:=I2.hok.fresh sz
 have da:d≠a:=fun z=>by rw [z,ea]at hH;cases hH
 obtain⟨od,es,ep,e1,e2,e3⟩:=gn
 have J:=Inv.write (o:=YQ a C (some d)) (t':=tk) I2 (by rw [ea];trivial) (.inl rfl) gk ⟨_,gx⟩ (QcC ⟨_,_,t0,gx,rfl,rfl,v0,v1,rfl⟩)
 have J2:=J.adopt (e:=d) (ho:=.frz od (.xd [(f,y)])) (by rw [Qb da];exact hH) (by
   cases z:X.s₀.heap.get? d with
   | none=>rfl
   | some o =>
    obtain⟨o',ho'⟩:=I2.base.there d o z (by rw [hex];simp)
    rw [dn]at ho'
    cases ho') (fun z=>by
   obtain⟨m,⟨o,_,_,ho',_⟩,_⟩:=I2.loc
   rw [<-z,dn]at ho'
   cases ho') (fun x c z w=>by
   obtain⟨v',o,ho',_⟩:=I2.cell x c z
   rw [w,dn]at ho'
   cases ho') (fun p hp w=>by
   have:=(I2.pin p hp).1
   rw [w,dn]at this
   cases this) ⟨e1,_,⟨od,es,ep,e1,e2,e3⟩,fun n=>?_⟩
 ·exact⟨σ,_,J2,q2 d od hH da⟩
 ·by_cases hn:n=f
  ·subst hn
   rw [if_pos rfl,List.lookup_cons_self]
   exact ry
  ·rw [if_neg hn,List.lookup_cons,show(n==f)=false from beq_eq_false_iff_ne.mpr hn]
   trivial
end
end L2
namespace L2
open PySem PySem.Spec PySem.W PyProof.Rows
section
variable {X:Cx}{pins:List (Addr×Obj)}{σ:St}{H:Hp}{s:Shared}{C fI:Addr}{fd:FuncData}{ps:List Str}{k:Nat}{CX:CXT}{E0:XK}{f:Str}{v:V}{dv:Value}
noncomputable def spI(C:Addr)(f:Str)(v:V):Sp:=fun vs H Q E=>∃e,vs=[.ref e,v]/\H e=some (YQ e C none)/\∀d od,H d=none->d≠e->Q .non (upd (upd H e (YQ e C (some d))) d (.frz od (.xd [(f,v)])))
structure Exi(K:PySem.W.Frag)(C fI:Addr):Prop where
 q:QbE K C fI=true
 fn:isFn K (.ref fI)=true
 kp:keepIn K (.ref C)=true
theorem Qb7(M:Exi X.K C fI)(F:FnOk X.prog X.w X.K X.mg X.base CX k fI fd ps (spI C f v))(hr:Room (k+1) X.A)(hb:Binds X.K fd ps [dv])(hd:RelV v dv)(hx:Y3 CX X E0)(I:Inv X pins σ H s):
  wpAny (model X.prog X.w) X.A (call (.ref C) []) (fun u s'=>∃e d od,u=.ref e/\Inv X pins σ (upd (upd H e (YQ e C (some d))) d (.frz od (.xd [(f,v)]))) s'/\H e=none/\H d=none/\d≠e/\s.heap.get? e=none) X.xe s:=by
 obtain⟨bm,N,nm,qn,bs,hdct,sn,sub,ab,col,dd',k0,k1,k2,k3,k5,mN,hC,hN,hi,T⟩:=Qaw I.kIn M.q
 obtain ⟨oI, hoI, hcI⟩ : ∃ oI, s.heap.get? fI = some oI /\ oI.cls = .type "function" := by
  obtain⟨oI,h1,h2⟩:=Option.map_eq_some_iff.mp (beq_iff_eq.mp M.fn)
  exact⟨oI,I.kIn _ _ h1,h2⟩
 obtain⟨hp,g,dw,tk,os⟩:=s
 refine QfA PySem.F.excBase_ValueError T hC hN hi hoI hcI (fun h' e ee mx=>?_) (Nat.zero_le _)
 have sz:hp.objs.size<=e:=ee▸Nat.le_succ _
 have hn:H e=none:=I.hok.fresh sz
 obtain⟨t0,he,_,_⟩:=mx.there
 have I2:Inv X pins σ (upd H e (YQ e C none)) ⟨h',g,dw,tk,os⟩:=I.laid (t':=tk) mx.keeps sz (QcC ⟨_,_,t0,he,rfl,rfl,rfl,rfl,rfl⟩)
 have r2:Vals [V.ref e,v] [Value.ref e,dv]:=.cons rfl (.cons hd .nil)
 have hsp:spI C f v [.ref e,v] (upd H e (YQ e C none)) (fun u H'=>u=.non/\∃d od,H'=upd (upd H e (YQ e C (some d))) d (.frz od (.xd [(f,v)]))/\H d=none/\d≠e) E0:=by
  refine⟨e,rfl,Qe,fun d od hd de=>⟨rfl,d,od,by rw [QfB],by rw [Qb de]at hd;exact hd,de⟩⟩
 have hl:([Value.ref e]++[dv]).length=ps.length:=by rw [<-F.len _ _ _ _ hsp];rfl
 refine wpAny_call (codeAny_mono (F.run _ X.stack _ _ ⟨[.ref e],[]⟩ [.ref e,dv] _ _ E0 (hr.make C [] []) (I2.env0.make C [] []) (hb _ [.ref e] I2.kIn hl) r2 hsp) fun r s' hq=>?_)
 cases r with
 | error e=>exact hx pins σ _ _ e s' I2 hq
 | ok fl =>
  cases fl with
  | ret u =>
   obtain⟨v',H',I3,rv,ev,d,od,eH,hd,de⟩:=I2.after hq
   subst ev eH
   exact⟨rv,e,d,od,rfl,I3,hn,hd,de,mx.new⟩
  | next=>exact False.elim hq
  | brk=>exact False.elim hq
  | cont=>exact False.elim hq
theorem Qce{x:Str}{np cpos pos:Pos}{W:Option Addr->Hp->Prop}(M:Exi X.K C fI)(F:FnOk X.prog X.w X.K X.mg X.base CX k fI fd ps (spI C f v))(hr:Room (k+1) X.A)(hb:Binds X.K fd ps [dv])(hd:RelV v dv)(hx:Y3 CX X E0)(hg:Gl X x)(hm:X.mg x=some (.ref C))(hc:X.calm=true)(hex:X.ex=[])
  (hw:∀pins σ H s e oe vs a0,Inv X pins σ H s->H e=none->X.s₀.heap.get? e=none->e≠X.env.locals->s.heap.get? e=some oe->oe.cls=.ref C->oe.data=.fields vs->vs[0]?=some a0->vs[1]?=some .none->W oe.dict H->X.xe (.ref e) s) (hdb:(x==("__debug__":Str))=false):
  PS X (.Raise (some (.Call (.Name x np) [] [] cpos)) none pos) (fun _ _ H=>∀d od,H d=none->W (some d) (upd H d (.frz od (.xd [(f,v)])))):=by
 intro pins s σ H D I h
 obtain⟨bm,N,nm,qn,bs,hdct,sn,sub,ab,col,dd',k0,k1,k2,k3,k5,mN,hC,hN,hi,T⟩:=Qaw I.ok.mod.kin M.q
 rw [arm_exec_Raise]
 refine wpAny_bind (wpAny_standAt (QdK (C:=C) (nm:=nm) (q:=qn) (N:=N) (bs:=bs) (bm:=bm) (hdct:=hdct) (sn:=sn) (sub:=sub) (ab:=ab) (col:=col) (dd:=dd') (k0:=k0) (k1:=k1) (k2:=k2) (k3:=k3) (k5:=k5) (newId:="ValueError.__new__") (T.hasType PySem.F.excBase_ValueError.hasBase) (I.ok.hd hc) ?_))
 refine wpAny_bind (wpAny_mono (wpAny_Call_Name_kw (Zw I hg hm (callWith_K0 I.kIn M.kp (Qb7 M F hr hb hd hx I)) hdb)) (fun u s3 ⟨e,d,od,eu,J,hn,hdn,de,hs⟩=>wpAny_bind (wpAny_standAt (wpAny_pure ?_))) fun _ _ z=>z)
 have eq:upd (upd H e (YQ e C (some d))) d (.frz od (.xd [(f,v)]))=upd (upd H d (.frz od (.xd [(f,v)]))) e (YQ e C (some d)):=funext fun b=>by
  by_cases hb:b=e
  ·subst hb
   rw [Qb (Ne.symm de),Qe,Qe]
  ·rw [Qb hb]
   by_cases hb2:b=d
   ·subst hb2
    rw [Qe,Qe]
   ·rw [Qb hb2,Qb hb,Qb hb2]
 rw [eq]at J
 obtain⟨oe,vs,t0,g1,g2,g3,g4,g5,g6⟩:=QcD J Qe
 have hn':upd H d (.frz od (.xd [(f,v)])) e=none:=by rw [Qb (Ne.symm de)];exact hn
 refine⟨e,oe,vs,eu,J.bk _ _ hC,g1,g2,g3,g5,hw pins σ _ _ e oe vs _ (J.drop hn') hn' ?_ ?_ g1 g2 g3 g4 g5 (by rw [g6];exact h d od hdn)⟩
 ·cases z:X.s₀.heap.get? e with
  | none=>rfl
  | some o =>
   obtain⟨o',ho'⟩:=I.base.there e o z (by rw [hex];simp)
   rw [hs]at ho'
   cases ho'
 ·intro z
  obtain⟨m,⟨o,_,_,ho',_⟩,_⟩:=I.loc
  rw [<-z,hs]at ho'
  cases ho'
noncomputable def Qi3(B sf fl:Str)(txt:Str)(els:Expr)(p1 p2 p3 p4 p5 p6 p7 p8 p9 p10 p11 p12 p13 p14:Pos)(k5 k7:Nat):List Stmt :=
 [.Expr (.Call (.Attribute (.Name B p1) "__init__" p2) [.Name sf p3,.IfExp (.Compare (.Name fl p4) [.Is] [.Constant .none k5 p5] p6) (.Constant (.str txt) k7 p7) els p8] [] p9) p10,.Assign [.Attribute (.Name sf p11) fl p12] (.Name fl p13) p14]
end
theorem QgC{P:Program}{w:World}{K:PySem.W.Frag}{mg:Str->Option Value}{base:Heap}{C CB fI:Addr}{name qual B sf fl txt:Str}{params:Arguments}{scope:Scope}{dV kV doc pm cdv ct oc:Value}{an od:Option Addr}{osl:Array (Option Value)}{body:List Stmt}
  {els:Expr} {p1 p2 p3 p4 p5 p6 p7 p8 p9 p10 p11 p12 p13 p14:Pos} {k5 k7:Nat} (lk:K.lookup fI=some ⟨oc,od,.func (PySem.W.fnOf name qual params body scope dV kV doc pm an cdv ct),osl⟩) (hcd:PySem.W.codeIn K cdv qual=true) (S:FnScope [sf,fl] [sf,fl] scope)
  (hbd:body=Qi3 B sf fl txt els p1 p2 p3 p4 p5 p6 p7 p8 p9 p10 p11 p12 p13 p14 k5 k7) (M:QbE K C fI=true) (Y:ErrCls K C) (h1:specialIn K (.ref CB) "__getattribute__"=some (some (.builtin "type.__getattribute__"))) (h2:readsIn K CB (.type "type")=true)
  (h3:findCls K (.ref CB) (.type "type") "__init__"=some (.val (.builtin "ValueError.__init__"))) (hm:mg B=some (.ref CB)) (hg:∀L a cd,(envOfC qual scope L a cd).kindOf B=some .globalImplicit) (hdb:(B==("__debug__":Str))=false)
  (h4:findIn K (.ref C) "__setattr__"=some (some (.builtin "object.__setattr__"))) (h5:Jz K C=true) (h6:findIn K (.ref C) fl=some none) (d1:(sf==("__debug__":Str))=false) (d2:(sf==("__classdict__":Str))=false) (d3:(fl==("__debug__":Str))=false) (d4:(fl==("__classdict__":Str))=false)
  (hst:∀L a cd,starEach [.Name sf p3,.IfExp (.Compare (.Name fl p4) [.Is] [.Constant .none k5 p5] p6) (.Constant (.str txt) k7 p7) els p8] (envOfC qual scope L a cd)=[(false,eval (.Name sf p3) (envOfC qual scope L a cd)),(false,eval (.IfExp (.Compare (.Name fl p4) [.Is] [.Constant .none k5 p5] p6) (.Constant (.str txt) k7 p7) els p8) (envOfC qual scope L a cd))])
  (hev:∀L a cd,∃pl:Sem Bool,eval (.Call (.Attribute (.Name B p1) "__init__" p2) [.Name sf p3,.IfExp (.Compare (.Name fl p4) [.Is] [.Constant .none k5 p5] p6) (.Constant (.str txt) k7 p7) els p8] [] p9) (envOfC qual scope L a cd)=(do
   let ov <-eval (.Name B p1) (envOfC qual scope L a cd)
   standAt p2.atName
   let (f,first) <-holding [ov] (getMethod ov "__init__" pl)
   callWith p9 f first (backTo p9 (starEach [.Name sf p3,.IfExp (.Compare (.Name fl p4) [.Is] [.Constant .none k5 p5] p6) (.Constant (.str txt) k7 p7) els p8] (envOfC qual scope L a cd))) (backToKw p9 (keywordEach [] (envOfC qual scope L a cd))))):
  FnOk P w K mg base CX0 2 fI (PySem.W.fnOf name qual params body scope dV kV doc pm an cdv ct) [sf,fl] (spI C fl .non):=by
 subst hbd
 refine QgK (k:=1) (N:=[sf,fl]) lk hcd S (fun vs H Q E ⟨e,h,_⟩=>by rw [h];rfl) fun A outer s H vs Q E hr ⟨e,ev,he,q⟩=>?_
 subst ev
 generalize hX:QbK CX0 P w K mg base [sf,fl] qual scope fI cdv A outer s H E=X
 have xN:X.N=[sf,fl]:=by subst hX;rfl
 have xK:X.K=K:=by subst hX;rfl
 have xm:X.mg=mg:=by subst hX;rfl
 have xe:X.env=envOfC qual scope s.heap.objs.size fI cdv:=by subst hX;rfl
 have xx:X.ex=[]:=by subst hX;rfl
 have vis:∀z∈[sf,fl],Vis X.env.scope z:=fun z hz=>by rw [xe];exact(S.par z hz).elim .inl fun q=>.inr (.inl q)
 have ps:∀{p},PE X (.Name sf p) (Qjj 0):=Qcm (by rw [xN];rfl) (vis sf (by simp)) d1 d2
 have pf:∀{p},PE X (.Name fl p) (Qjj 1):=Qcm (by rw [xN];rfl) (vis fl (by simp)) d3 d4
 have pif:PE X (.IfExp (.Compare (.Name fl p4) [.Is] [.Constant .none k5 p5] p6) (.Constant (.str txt) k7 p7) els p8) (tIf (Qhs (tOp (fun x y H Q=>y=.non/\Q (.bl (decide (x=.non))) H) (Qjj 1) (tC .non))) (tC (.str txt)) fun _ _ _=>False):=
  QaW (Qcb Qfd pf Qfa (Qis _)) Qcn fun _ _ _ _ _ _ z=>z.elim
 have st:starEach [.Name sf p3,.IfExp (.Compare (.Name fl p4) [.Is] [.Constant .none k5 p5] p6) (.Constant (.str txt) k7 p7) els p8] X.env=[(false,eval (.Name sf p3) X.env),(false,eval (.IfExp (.Compare (.Name fl p4) [.Is] [.Constant .none k5 p5] p6) (.Constant (.str txt) k7 p7) els p8) X.env)]:=by rw [xe];exact hst _ _ _
 have pa:=Zv (ps (p:=p3)) (Zv pif YN rfl) rfl
 obtain⟨pl,hev⟩:=hev s.heap.objs.size fI cdv
 rw [<-xe]at hev
 refine⟨_,ZT (Y8 (Qej (C:=C) (CB:=CB) (fI:=fI) (show X.env.kindOf B=_ by rw [xe];exact hg _ _ _) (by rw [xm];exact hm) hdb (by rw [xK];exact M) (by rw [xK];exact h1) (by rw [xK];exact h2) (by rw [xK];exact h3) pa st hev) rfl)
  (Qcc (Qf1 (C:=C) (by rw [xK];exact Y) (by rw [xK];exact h4) (by rw [xK];exact h5) (by rw [xK];exact h6) ps pf rfl xx)),?_⟩
 refine⟨.ref e,rfl,.non,rfl,rfl,_,rfl,?_⟩
 dsimp only
 rw [if_pos (by simp)]
 exact⟨e,.str txt,none,rfl,he,.non,rfl,.ref e,rfl,e,rfl,he,q⟩
end L2
namespace L2
open PySem
open Sem (wp)
open AutoSeq1 (wpAny_loadPart')
section
variable {prog:Program}{w:World}{A:Around}{E:Value->Shared->Prop}{s:Shared}
end
end L2
namespace L2
open PySem PySem.Spec PyProof.Rows
section
variable {X:Cx}
noncomputable def Qk5(K:PySem.W.Frag)(te:TE):TE:=fun σ H Q=>te σ H fun x H1=>∃a xs,x=.ref a/\SqL K H1 a xs/\∀p,H1 p=none->Q (.ref p) (upd H1 p (.lst xs.reverse))
theorem Qh9{e:Expr}{te:TE}{j:Nat}{p1 p3 p2 pos:Pos}(he:PE X e te):PE X (.Subscript e (.Slice none none (some (.UnaryOp .USub (.Constant (.int 1) j p1) p3)) p2) pos) (Qk5 X.K te):=by
 intro pins s σ H Q I h
 refine Subscript_ (thn (he pins s σ H _ I h) fun v s1 ⟨x,H1,I1,r1,q1⟩=>?_)
 have hk:PO X (some (.UnaryOp .USub (.Constant (.int 1) j p1) p3)) (Qht (tUn (rU fun i=>.int (-i)) (tC (.int 1)))):=Qch (Qh7 QeX Qco)
 refine wpAny_Slice ?_
 rw [evalPart_none]
 refine wpAny_pure ?_
 refine wpAny_pure ?_
 refine thn (hk pins s1 σ H1 (fun o H2=>o=some (-1)/\H2=H1) I1 ⟨1,rfl,-1,rfl,rfl,rfl⟩) fun vk s3 ⟨o,H3,I3,pk,eo,eH⟩=>?_
 subst eo eH
 have I4:Inv X pins σ H3 { s3 with heap:=s3.heap.push { cls:=.type "slice",data:=.fields #[.none,.none,vk] } }:=I3.kept (t':=s3.toks) fun b ob q=>Heap.get?_push_of_some _ q
 obtain⟨a,xs,rfl,hq,q⟩:=q1
 cases r1
 obtain⟨its,r,ht,hz⟩:=I4.list hq
 have hlen:=r.length
 show wpAny (model X.prog X.w) X.A (subscriptTail e (.Slice none none (some (.UnaryOp .USub (.Constant (.int 1) j p1) p3)) p2) (.ref a) (.ref s3.heap.objs.size)) (EP X pins σ Q) X.xe { s3 with heap:=s3.heap.push { cls:=.type "slice",data:=.fields #[.none,.none,vk] } }
 refine tail_any (ops:=[.ref a,.ref s3.heap.objs.size]) ht.isList.typeIs slot_list_getitem.lookup ?_ (by with_unfolding_all rfl)
 refine wpAny_getItem_list_slice ht.isList (Heap.IsSliceOf.new ..) .none .none pk (by simp) ?_ (by rw [List.size_toArray]<;>lia)
 rw [PySem.W.krv_pick]
 refine⟨.ref _,_,I4.laid (t':=s3.toks) (o:=.lst xs.reverse) (fun b ob q=>Heap.get?_push_of_some _ q) (Nat.le_refl _) ?_,rfl,q _ (I4.hok.fresh (Nat.le_refl _))⟩
 exact⟨by rw [List.length_reverse];exact hz,_,0,by simpa using r.reverse,Heap.get?_push_size _ rfl⟩
end
end L2
namespace L2
open PySem PySem.Spec PyProof.Rows
open Sem (wp)
section
variable {prog:Program}{w:World}{A:Around}{E:Value->Shared->Prop}{s:Shared}
theorem QcG:typeLookup (.type "list_reverseiterator") "__len__"=pure none:=by rw [typeLookup_type,builtinLookup_eq_fast];kernel_rfl
theorem Qes:typeLookup (.type "list_reverseiterator") "__length_hint__"=pure (some (.builtin "list_reverseiterator.__length_hint__")):=by rw [typeLookup_type,builtinLookup_eq_fast];kernel_rfl
theorem QbC{R:Result->Shared->Prop}{I l:Addr}{items:Array Value}(hh:A.handled=none)(hit:s.heap.IsRevIter I l ((items.size:Int) - 1))(hl:s.heap.IsList l items)(hne:l≠I)(hn:items.size<=sizeLine)(S:Addr)(res:Value)(c₀:Nat)
  (hS:s.heap.get? S=some { cls:=.type "list",data:=.seq #[] c₀ }) (hSI:S≠I) (hSl:S≠l)
  (hR:∀h' tk acc' c',(∀b o,b≠S->b≠I->s.heap.get? b=some o->h'.get? b=some o)->h'.get? S=some { cls:=.type "list",dict:=none,data:=.seq acc' c',slots:=#[] } ->
   ItemsOf (fun i v=>items[items.size-1-i]?=some v) acc' items.size->R (.ok (.ret res)) { s with heap:=h',toks:=tk }):
  wpAny (model prog w) A.in1 (Builtin.List.listExtendWith (.ref S) (.ref I) res)
   (fun fin s'=>match fin with | .done f=>R (.ok f) s' | .again c'=>c'.quiet=true/\codeAny (model prog w) A c' R s') (fun e s'=>R (.error e) s') s:=by
 have hTy:s.TypeIs (.ref I) "list_reverseiterator":=hit.typeIs
 have W:=(Walks.listRev (prog:=prog) (w:=w) (A:=A.in1) hh I l hne items).toS
 have hSf:S∉[I,l]:=fun hm=>by
  rcases List.mem_cons.mp hm with e | hm
  ·exact hSI e
  ·exact hSl (List.mem_singleton.mp hm)
 unfold Builtin.List.listExtendWith
 refine wpAny_bind (wpAny_typeOf hTy ?_)
 have h1:Builtin.List.listSameRef (.ref S) (.ref I)=false:=by simp [Builtin.List.listSameRef,hSI]
 have h2:(Value.type "list_reverseiterator"==Value.type "list")=false:=by decide
 have h3:(Value.type "list_reverseiterator"==Value.type "tuple")=false:=by decide
 simp only [h1,h2,h3,Bool.or_false,Bool.false_eq_true,if_false]
 refine wpAny_bind (wpAny_pyIter_revIter hit ?_)
 refine wpAny_bind (wpAny_holding ?_)
 unfold Builtin.List.listLengthHint
 refine wpAny_bind (wpAny_specialOf hTy QcG ?_)
 show wpAny _ A.in1 (specialOf (Value.ref I) (Str.ofString "__length_hint__") >>= _) _ _ _
 refine wpAny_bind (wpAny_specialOf hTy Qes ?_)
 generalize hid:("list_reverseiterator.__length_hint__":String)=id0
 wp_delta
 rw [show splitId id0=some ("list_reverseiterator","__length_hint__")from by subst hid;decide +kernel]
 subst hid
 refine wpAny_bind (wpAny_isInstance (T:="list_reverseiterator") (b:=true) hTy (by rw [isSubtype_type];kernel_rfl) ?_)
 refine wpAny_ite_split (fun hab=>absurd hab (by decide)) (fun _=>?_)
 refine wpAny_ite_split (fun _=>?_) (fun hab=>absurd (by decide +kernel) hab)
 refine wpAny_ite_split (fun hab=>absurd hab (by decide +kernel)) (fun _=>?_)
 refine wpAny_pure ?_
 rw [if_neg (by decide)]
 refine wpAny_pure ⟨plainId_quiet F.plain_extend_loop _,codeAny_extend_loopS W hn S hSf res items.size 0 _ #[] c₀ rfl (Nat.zero_le _) ⟨Nat.zero_le _,by simpa using hit,hl⟩ hS (ItemsOf.nil _) fun s' acc' c' hm hS' hacc=>?_⟩
 rw [Moved.eq_with hm]
 refine hR s'.heap s'.toks acc' c' (fun b o hb hb2 e=>hm.heap b o (fun hmem=>?_) e) hS' hacc
 rcases List.mem_cons.mp hmem with e' | hmem
 ·exact hb e'
 ·exact hb2 (List.mem_singleton.mp hmem)
theorem Jk{Q:Value->Shared->Prop}{I l:Addr}{items:Array Value}(hh:A.handled=none)(hit:s.heap.IsRevIter I l ((items.size:Int) - 1))(hl:s.heap.IsList l items)(hne:l≠I)(hn:items.size<=sizeLine)
  (hQ:∀h' tk acc' c',(∀b o,b≠I->s.heap.get? b=some o->h'.get? b=some o) ->
   h'.get? s.heap.objs.size=some { cls:=.type "list",dict:=none,data:=.seq acc' c',slots:=#[] }->ItemsOf (fun i v=>items[items.size-1-i]?=some v) acc' items.size->Q (.ref s.heap.objs.size) { s with heap:=h',toks:=tk }):
  wpAny (model prog w) A (call (.type "list") [.ref I]) Q E s:=by
 refine callType_codes (Q₁ := fun obj s₁ => obj = .ref s.heap.objs.size /\ s₁ = { s with heap := s.heap.push { cls := .type "list", data := .seq #[] } }) F.called_list (F.typeCall_list_1 _) F.entry_list_init
  (code_list_new _ ⟨rfl,rfl⟩) fun obj s₁ h₁=>?_
 obtain⟨rfl,rfl⟩:=h₁
 have hS:(s.heap.push { cls:=.type "list",data:=.seq #[] }).get? s.heap.objs.size=some { cls:=.type "list",data:=.seq #[] }:=Heap.get?_push_size _ rfl
 have hI:s.heap.objs.size≠I:=by
  obtain⟨o,e,_⟩:=hit
  exact Ne.symm (Nat.ne_of_lt (Heap.lt_size e))
 have hL:s.heap.objs.size≠l:=by
  obtain⟨o,e,_⟩:=hl
  exact Ne.symm (Nat.ne_of_lt (Heap.lt_size e))
 refine⟨⟨_,hS,rfl⟩,F.args_list_init_2 _ _,?_⟩
 show wpAny _ _ (do let old <-Builtin.List.listItems (.ref s.heap.objs.size);Builtin.List.listUpdate (.ref s.heap.objs.size) (fun _=>#[]);letGo old.toList.reverse;Builtin.List.listExtendWith (.ref s.heap.objs.size) (.ref I) .none) _ _ _
 refine wpAny_bind ?_
 unfold Builtin.List.listItems
 refine wpAny_bind (wpAny_seqItems hS rfl (wpAny_pure ?_))
 show wpAny _ _ (updateSeq s.heap.objs.size (fun _=>#[]) >>= fun _=>letGo (#[]:Array Value).toList.reverse >>= fun _=>Builtin.List.listExtendWith (.ref s.heap.objs.size) (.ref I) .none) _ _ _
 refine wpAny_bind (wpAny_updateSeq hS rfl ?_)
 have hS₂:=Heap.get?_update_self (Obj.mapSeq (fun _=>(#[]:Array Value))) hS rfl
 have oth:∀b o,s.heap.get? b=some o->((s.heap.push { cls:=.type "list",data:=.seq #[] }).update s.heap.objs.size (Obj.mapSeq (fun _=>(#[]:Array Value)))).get? b=some o :=
  fun b o e=>(Heap.get?_update_other _ _ (Ne.symm (Nat.ne_of_lt (Heap.lt_size e)))).trans (Heap.get?_push_of_some _ e)
 refine wpAny_bind (wpAny_letGo ?_)
 refine QbC (A:=A.in1) hh (l:=l) (items:=items) ?_ ?_ hne hn _ .none _ hS₂ hI hL fun h' tk acc' c' hk hS' hacc=>?_
 ·exact hit.at fun o e=>oth _ _ e
 ·exact hl.at fun o e=>oth _ _ e
 ·exact⟨rfl,hQ h' tk acc' c' (fun b o hb e=>hk b o (Nat.ne_of_lt (Heap.lt_size e)) hb (oth b o e)) hS' hacc⟩
end
section
variable {X:Cx}
theorem Qd8{xs:List V}{its:List Value}{acc:Array Value}(r:Vals xs its)(h:ItemsOf (fun i v=>its.toArray[its.toArray.size-1-i]?=some v) acc its.toArray.size):Vals xs.reverse acc.toList:=by
 have e:acc.toList=its.reverse:=by
  refine List.ext_getElem? fun i=>?_
  by_cases hi:i<its.length
  ·rw [List.getElem?_reverse hi]
   have hs:acc.size=its.length:=by simpa using h.1
   have hi':i<acc.size:=by lia
   have h1:=h.2 i acc[i] (by simp [hi'])
   simp only [List.getElem?_toArray,List.size_toArray]at h1
   rw [h1]
   simp [hi']
  ·have hs:acc.size=its.length:=by simpa using h.1
   rw [List.getElem?_eq_none (by simp;lia),List.getElem?_eq_none (by simp;lia)]
 rw [e]
 exact r.reverse
theorem Qgb{e:Expr}{te:TE}{p q pos pos2:Pos}(hc:X.calm=true)(hg:Gl X "list") (hm:X.mg "list"=none) (hg2:Gl X "reversed") (hm2:X.mg "reversed"=none) (he:PE X e te) (hs:starEach [e] X.env=[(false,eval e X.env)]):
  PE X (.Call (.Name "list" p) [.Call (.Name "reversed" q) [e] [] pos2] [] pos) (Qk5 X.K te):=by
 intro pins s σ H Q I h
 refine wpAny_Call_Name_kw (ZX I hg hm PyProof.Rows.boot_list ?_)
 refine PyProof.Rows.callWith_type1 (e:=.Call (.Name "reversed" q) [e] [] pos2) (rest:=[]) ?_ rfl rfl
 show wpAny _ _ (spliced ((false,eval (.Call (.Name "reversed" q) [e] [] pos2) X.env)::backTo pos (starEach [] X.env))) _ _ s
 refine Calls.spliced_cons ?_
 refine wpAny_Call_Name_kw (ZX I hg2 hm2 boot_reversed ?_)
 refine PyProof.Rows.callWith_type1 (e:=e) (rest:=[]) ?_ hs rfl
 rw [hs]
 show wpAny _ _ (spliced ((false,eval e X.env)::backTo pos2 (starEach [] X.env))) _ _ s
 refine Calls.spliced_cons (thn (he pins s σ H _ I h) fun u s1 ⟨x,H1,I1,rx,q1⟩=>?_)
 refine Calls.spliced_nil ?_
 obtain⟨a,xs,ev,hq,q⟩:=q1
 subst ev
 cases rx
 obtain⟨its,rv,pl,hz⟩:=I1.list hq
 refine call_reversed_list pl.isList ?_
 refine Calls.spliced_nil ?_
 have I2:Inv X pins σ H1 { s1 with heap:=s1.heap.push (revObj a ((its.toArray.size:Int) - 1)) }:=I1.kept (t':=s1.toks) fun b o e=>Heap.get?_push_of_some _ e
 have st:(s1.heap.push (revObj a ((its.toArray.size:Int) - 1))).IsRevIter s1.heap.objs.size a ((its.toArray.size:Int) - 1):=⟨_,Heap.get?_push_size _ rfl,rfl,by simp [revObj]⟩
 have hl:(s1.heap.push (revObj a ((its.toArray.size:Int) - 1))).IsList a its.toArray:=pl.isList.at fun o e=>Heap.get?_push_of_some _ e
 have hne:a≠s1.heap.objs.size:=by
  obtain⟨o,e,_⟩:=pl.isList
  exact Nat.ne_of_lt (Heap.lt_size e)
 refine Jk (I2.ok.hd hc) st hl hne (by rw [List.size_toArray,<-rv.length];exact hz) fun h' tk acc c' kp hS hacc=>?_
 have e1:(s1.heap.push (revObj a ((its.toArray.size:Int) - 1))).objs.size=s1.heap.objs.size+1:=by simp [Heap.push]
 have hS':=hS
 refine⟨.ref _,_,I1.laid (t':=tk) (o:=.lst xs.reverse) (a:=(s1.heap.push (revObj a ((its.toArray.size:Int) - 1))).objs.size) (fun b o e=>kp b o (Nat.ne_of_lt (Heap.lt_size e)) (Heap.get?_push_of_some _ e)) (by rw [e1];exact Nat.le_succ _) ?_,rfl,q _ (I1.hok.fresh (a:=(s1.heap.push (revObj a ((its.toArray.size:Int) - 1))).objs.size) (by rw [e1];exact Nat.le_succ _))⟩
 exact⟨by rw [List.length_reverse];exact hz,acc.toList,c',Qd8 rv hacc,by simpa using hS⟩
noncomputable def Its(x:PySem.Str):It:=⟨fun i _=>i<x.cps.size,fun i H y H'=>H'=H/\∃c,x.cps[i]?=some c/\y=.str ⟨#[c]⟩,fun i _=>x.cps.size<=i⟩
theorem QdO {P : Program} {w : World} {K : PySem.W.Frag} {tg : Expr} (x : PySem.Str) (tk : Tok) (it : Addr) (n : String) (hn : n = "str_ascii_iterator" \/ n = "str_iterator") : Turn P w K tg (Its x) [it] it (fun i h => h.IsStrIter it n x tk i) where
 mem:=by simp
 obj:=fun i h st b hb=>by
  have e:b=it:=by simpa using hb
  subst e
  obtain⟨o,e,c,d⟩:=st
  exact⟨o,e,fun v z=>by rw [d]at z;cases z⟩
 keep:=fun i h h' st k=>by
  obtain⟨o,e,r⟩:=st
  exact⟨o,k it (by simp) o e,r⟩
 item:=by
  intro X hP hw hK hc i pins s σ H E I hf st hg
  subst hP hw hK
  obtain⟨f0,f1,f2,f3,f4,f5⟩:=hf it (by simp)
  have hg:i<x.cps.size:=hg
  have hx:x.cps[i]?=some x.cps[i]:=Array.getElem?_eq_getElem hg
  have fin:∀h',h'.IsStrIter it n x tk (i+1)->Heap.SameBut it s.heap h'->∃u,some (Value.str ⟨#[x.cps[i]]⟩ s.toks)=some u /\
    wpAny (model X.prog X.w) X.A (letOwnedTupleGo tg (.ref it) u) (fun _ s2=>∃y H',Inv X pins σ H' s2/\RelV y u/\(Its x).yld i H y H'/\s2.heap.IsStrIter it n x tk (i+1)/\∀b∈[it],H' b=none) E { s with heap:=h',toks:=s.toks+1 }:=by
   intro h' st' sb
   have I1:Inv X pins σ H { s with heap:=h',toks:=s.toks+1 }:=I.turned (t':=s.toks+1) (fun b o hb e=>(sb.2 b hb).trans e) f0 f1 f3 f4 f5
   obtain⟨o,e,c,d⟩:=id st'
   exact⟨_,rfl,Qas (s:={ s with heap:=h',toks:=s.toks+1 }) e c d (by rcases hn with rfl | rfl<;>decide) ⟨.str ⟨#[x.cps[i]]⟩,H,I1,⟨_,rfl⟩,⟨rfl,_,hx,rfl⟩,st',fun b hb=>(hf b hb).1⟩⟩
  rcases hn with rfl | rfl
  ·exact wpAny_pyNext_ascii_item st hx fin
  ·exact wpAny_pyNext_wide_item st hx fin
 done:=by
  intro X hP hw hK hc i pins s σ H E I hf st hg
  subst hP hw hK
  have hg:x.cps.size<=i:=hg
  have hx:x.cps[i]?=none:=Array.getElem?_eq_none hg
  obtain⟨f0,f1,f2,f3,f4,f5⟩:=hf it (by simp)
  rcases hn with rfl | rfl
  ·exact wpAny_pyNext_ascii_end (I.ok.hd hc) st hx fun h' eb=>⟨rfl,I.turned (t':=s.toks) (fun b o hb e=>eb b o hb e) f0 f1 f3 f4 f5⟩
  ·exact wpAny_pyNext_wide_end (I.ok.hd hc) st hx fun h' eb=>⟨rfl,I.turned (t':=s.toks) (fun b o hb e=>eb b o hb e) f0 f1 f3 f4 f5⟩
 self:=fun _ _ _ _ _ st h=>by
  rcases hn with rfl | rfl
  ·exact wpAny_pyIter_striter_ascii st h
  ·exact wpAny_pyIter_striter_wide st h
noncomputable def Qmd(te:TE):TI:=fun σ H R=>te σ H fun x H1=>∃t,x=.str t/\R (Its t) H1
theorem Qh4{tg e:Expr}{te:TE}(he:PE X e te):PI X tg e (Qmd te):=by
 intro pins s σ H R I h
 refine thn (he pins s σ H _ I h) fun u s1 ⟨x,H1,I1,rx,q1⟩=>?_
 obtain⟨t,rfl,q⟩:=q1
 obtain⟨tk,rfl⟩:=rx
 have fin : ∀ (n : String) (o : Obj), n = "str_ascii_iterator" \/ n = "str_iterator" -> o = { cls := .type n, data := .fields #[.str t tk, .int 0 0] } -> PIE X pins σ tg R (.ref s1.heap.objs.size) { s1 with heap := s1.heap.push o } := by
  intro n o hn ho
  subst ho
  refine⟨s1.heap.objs.size,[s1.heap.objs.size],_,_,H1,rfl,I1.kept (t':=s1.toks) fun b o e=>Heap.get?_push_of_some _ e,QdO t tk _ n hn,⟨_,Heap.get?_push_size _ rfl,rfl,rfl⟩,fun b hb=>?_,q⟩
  have e:b=s1.heap.objs.size:=by simpa using hb
  subst e
  exact I1.fpOk (Nat.le_refl _) (I1.hok.fresh (Nat.le_refl _))
 cases ha:t.cps.all (· < 128)
 ·exact wpAny_pyIter_wide ha (fin _ _ (.inr rfl) rfl)
 ·exact wpAny_pyIter_ascii ha (fin _ _ (.inl rfl) rfl)
end
end L2
namespace L2
open PySem PySem.Spec PyProof.Rows
section
variable {X:Cx}{pins:List (Addr×Obj)}{σ:St}{H:Hp}{s:Shared}{d:Addr}
theorem Inv.freeze{kv:List (Key×V)}(I:Inv X pins σ H s)(h:H d=some (.dK kv)):∃o es ep,s.heap.get? d=some o/\o.data=.dict es ep/\Inv X pins σ (upd H d (.frz o (.dK kv))) s:=by
 obtain⟨hz,hm,vs,r,o,es,ep,e,c,dt,rr⟩:=QgM I.hok h
 refine⟨o,es,ep,e,dt,?_⟩
 have:=I.write (x:=d) (e:=d) (o:=.frz o (.dK kv)) (h':=s.heap) (t':=s.toks) (by rw [h];trivial) (.inl rfl) (fun b u _ q=>q) ⟨o,e⟩ ⟨e,hz,hm,vs,r,o,es,ep,e,c,dt,rr⟩
 exact this
theorem Inv.thaw{o:Obj}{kv:List (Key×V)}(I:Inv X pins σ H s)(h:H d=some (.frz o (.dK kv)))(h0:∀o' u',X.H₀ d≠some (.frz o' u')):Inv X pins σ (upd H d (.dK kv)) s:=by
 have ne:∀{b:Addr},H b=none->b≠d:=fun q z=>by rw [z,h]at q;cases q
 refine⟨I.ok,I.os,I.bare,⟨I.base.keep,I.base.slot,fun b ob q n hx=>?_,I.base.there,fun b xs q=>?_,fun b ob u q=>?_,fun b ps q=>?_⟩,I.loc,I.cell,?_,fun x c e=>?_,fun p hp=>?_,fun b u q=>?_,I.len⟩
 ·have:=I.base.free b ob q n hx
  rw [Qb (ne this)]
  exact this
 ·have:=I.base.tups b xs q
  rw [Qb (fun z=>by rw [z,h]at this;cases this)]
  exact this
 ·have:=I.base.frzs b ob u q
  rw [Qb (fun z=>by subst z;exact h0 _ _ q)]
  exact this
 ·obtain⟨more,e⟩:=I.base.tbls b ps q
  refine⟨more,?_⟩
  rw [Qb (fun z=>by rw [z,h]at e;cases e)]
  exact e
 ·rw [Qb (ne I.free)]
  exact I.free
 ·rw [Qb (ne (I.freeC x c e))]
  exact I.freeC x c e
 ·obtain⟨a1,a2,a3⟩:=I.pin p hp
  exact⟨a1,by rw [Qb (ne a2)];exact a2,a3⟩
 ·by_cases hb:b=d
  ·subst hb
   rw [Qe]at q
   cases q
   obtain⟨_,ok⟩:=I.hok b _ h
   exact ok
  ·rw [Qb hb]at q
   refine(I.hok b u q).stay (fun c v _ r=>r) (fun c r=>?_) fun c xs r=>?_
   ·rw [Qb (fun z=>by rw [z,h]at r;cases r)];exact r
   ·rw [Qb (fun z=>by rw [z,h]at r;cases r)];exact r
end
noncomputable def Itk(a:Addr)(o:Obj)(kv:List (Key×V)):It :=
 ⟨fun i H=>H a=some (.frz o (.dK kv))/\i<kv.length,fun i H x H'=>H'=H/\∃p,kv[i]?=some p/\x=kV p.1,fun i H=>H a=some (.frz o (.dK kv))/\kv.length<=i⟩
theorem Qgv{P:Program}{w:World}{k:Key}{u:Value}(h:(QB P w).is k u=true):RelV (kV k) u:=by
 rcases QG (show Qaq k u=true from h)with⟨i,t,rfl,rfl⟩ | ⟨x,t,rfl,rfl⟩
 ·exact⟨t,rfl⟩
 ·exact⟨t,rfl⟩
theorem Qfi:∀{kv:List (Key×V)} {vs:List (Key×Value)} {i:Nat} {p:Key×V} {q:Key×Value},KV kv vs->kv[i]?=some p->vs[i]?=some q->p.1=q.1
 | _,_,i,p,q,.nil,h1,h2=>by simp at h1
 | _,_,0,p,q,.cons r t,h1,h2=>by
  simp at h1 h2
  subst h1 h2
  exact r.1
 | _,_,i+1,p,q,.cons r t,h1,h2=>Qfi (i:=i) t (by simpa using h1) (by simpa using h2)
theorem QbR{P:Program}{w:World}{K:PySem.W.Frag}{tg:Expr}(a it:Addr)(o:Obj)(kv:List (Key×V))(es:Array DictEntry)(ep:Nat)(hd:o.data=.dict es ep):
  Turn P w K tg (Itk a o kv) [it] it (fun i h=>h.IsKeyIter it a i kv.length ep) where
 mem:=by simp
 obj:=fun i h st b hb=>by
  have e:b=it:=by simpa using hb
  subst e
  obtain⟨o,e,c,d⟩:=st
  exact⟨o,e,fun v z=>by rw [d]at z;cases z⟩
 keep:=fun i h h' st k=>by
  obtain⟨o,e,r⟩:=st
  exact⟨o,k it (by simp) o e,r⟩
 item:=by
  intro X hP hw hK hc i pins s σ H E I hf st hg
  subst hP hw hK
  obtain⟨f0,f1,f2,f3,f4,f5⟩:=hf it (by simp)
  obtain⟨hg,hi⟩:=hg
  obtain⟨eo,hz,hm,vs,rr,o',es',ep',e',c',dt',r'⟩:=I.hok a _ hg
  rw [eo]at e';cases e'
  rw [hd]at dt';cases dt'
  have hl:=Paired.length rr
  have hi':i<vs.length:=by lia
  have D:s.heap.DictAt (QB X.prog X.w) a vs ep:=⟨o,es,eo,c',hd,r'⟩
  have st':=st
  rw [hl]at st'
  refine wpAny_pyNext_dict_item st' D (k:=vs[i].1) (v:=vs[i].2) (List.getElem?_eq_getElem hi') fun key h' hk hit sb=>?_
  have I1:Inv X pins σ H { s with heap:=h' }:=I.turned (t':=s.toks) (fun b o hb e=>(sb.2 b hb).trans e) f0 f1 f3 f4 f5
  obtain⟨oi,e,c,dd⟩:=id hit
  have ek:kv[i].1=vs[i].1:=by
   exact Qfi rr (List.getElem?_eq_getElem hi) (List.getElem?_eq_getElem hi')
  refine⟨key,rfl,Qas (s:={ s with heap:=h' }) e c dd (by decide) ⟨kV kv[i].1,H,I1,by rw [ek];exact Qgv hk,⟨rfl,kv[i],List.getElem?_eq_getElem hi,rfl⟩,?_,fun b hb=>(hf b hb).1⟩⟩
  rw [hl]
  exact hit
 done:=by
  intro X hP hw hK hc i pins s σ H E I hf st hg
  subst hP hw hK
  obtain⟨f0,f1,f2,f3,f4,f5⟩:=hf it (by simp)
  obtain⟨hg,hi⟩:=hg
  obtain⟨eo,hz,hm,vs,rr,o',es',ep',e',c',dt',r'⟩:=I.hok a _ hg
  rw [eo]at e';cases e'
  rw [hd]at dt';cases dt'
  have hl:=Paired.length rr
  have D:s.heap.DictAt (QB X.prog X.w) a vs ep:=⟨o,es,eo,c',hd,r'⟩
  have st':=st
  rw [hl]at st'
  exact wpAny_pyNext_dict_end (I.ok.hd hc) st' D (List.getElem?_eq_none (by lia)) fun h' eb=>⟨rfl,I.turned (t':=s.toks) (fun b o hb e=>eb b o hb e) f0 f1 f3 f4 f5⟩
 self:=fun _ _ _ _ _ st h=>wpAny_pyIter_keyiter st h
section
variable {X:Cx}
noncomputable def QkB(te:TE):TI:=fun σ H R=>te σ H fun x H1=>∃a kv,x=.ref a/\H1 a=some (.dK kv)/\∀o,R (Itk a o kv) (upd H1 a (.frz o (.dK kv)))
theorem Qga{tg e:Expr}{te:TE}(he:PE X e te):PI X tg e (QkB te):=by
 intro pins s σ H R I h
 refine thn (he pins s σ H _ I h) fun u s1 ⟨x,H1,I1,rx,q1⟩=>?_
 obtain⟨a,kv,rfl,hk,q⟩:=q1
 cases rx
 obtain⟨hz,hm,vs,r,dof⟩:=QgM I1.hok hk
 obtain⟨o,es,ep,eo,hd,I2⟩:=I1.freeze hk
 have hl:=Paired.length r
 obtain⟨ep',D⟩:=dof.dictAt
 have ee:ep'=ep:=by
  obtain⟨o',es',e',c',dt',_⟩:=id D
  rw [eo]at e';cases e'
  rw [hd]at dt';cases dt'
  rfl
 subst ee
 refine wpAny_pyIter_dict hm D ?_
 refine⟨s1.heap.objs.size,[s1.heap.objs.size],_,Itk a o kv,_,rfl,I2.kept (t':=s1.toks) fun b o e=>Heap.get?_push_of_some _ e,QbR a _ o kv es ep' hd,⟨_,Heap.get?_push_size _ rfl,rfl,by rw [hl];rfl⟩,fun b hb=>?_,q o⟩
 have e:b=s1.heap.objs.size:=by simpa using hb
 subst e
 exact I2.fpOk (Nat.le_refl _) (I2.hok.fresh (Nat.le_refl _))
noncomputable def QdX(d:Addr)(H:Hp)(P:Hp->Prop)(H':Hp):Prop:=∃o kv,H' d=some (.frz o (.dK kv))/\P (upd H' d (.dK kv))
noncomputable def QjZ(ts:TS):TS:=fun D σ H=>∃d kv,H d=some (.dK kv)/\ts ⟨fun σ'=>QdX d H (D.nx σ'),fun v=>QdX d H (D.rt v),fun σ'=>QdX d H (D.bk σ'),fun σ'=>QdX d H (D.ct σ')⟩ σ H
theorem QfY{st:Stmt}{ts:TS}(h:PS X st ts):PS X st (QjZ ts):=by
 intro pins s σ H D I q
 obtain⟨d,kv,hk,q⟩:=q
 have h0:∀o' u',X.H₀ d≠some (.frz o' u'):=fun o' u' z=>by
  have:=I.base.frzs d o' u' z
  rw [hk]at this
  cases this
 refine thn (h pins s σ H _ I q) fun f s' hf=>?_
 cases f with
 | next=>obtain⟨σ',H',I',o,kv',e,p⟩:=hf;exact⟨σ',_,I'.thaw e h0,p⟩
 | brk=>obtain⟨σ',H',I',o,kv',e,p⟩:=hf;exact⟨σ',_,I'.thaw e h0,p⟩
 | cont=>obtain⟨σ',H',I',o,kv',e,p⟩:=hf;exact⟨σ',_,I'.thaw e h0,p⟩
 | ret u=>obtain⟨v,σ',H',I',rv,o,kv',e,p⟩:=hf;exact⟨v,σ',_,I'.thaw e h0,rv,p⟩
end
end L2
namespace L2
open PySem PySem.Spec PyProof.Rows
section
variable {prog:Program}{w:World}{A:Around}{E:Value->Shared->Prop}{s:Shared}
theorem Qa0{it d:Addr}{i ep:Nat}{od:Obj}{es:Array DictEntry}{Q:Option Value->Shared->Prop}(hit:s.heap.IsKeyIter it d i es.size ep)(hod:s.heap.get? d=some od)(hdd:od.data=.dict es ep)(hlt:i<es.size)
  (hQ:∀h',h'.IsKeyIter it d (i+1) es.size ep->Heap.SameBut it s.heap h'->Q (some es[i].key) { s with heap:=h' }):wpAny (model prog w) A (pyNext (.ref it)) Q E s:=by
 obtain⟨o,ho,hc,hd⟩:=id hit
 have ty:=hit.typeIs
 have sl:=PySem.F.slot_dict_keyiterator_next
 have own:Builtin.Dict_items.ownsTuple "dict_keyiterator"=false:=by decide
 have nn:¬((Value.ref d==Value.none)=true):=Bool.false_ne_true
 unfold pyNext
 refine wpAny_bind (wpAny_attempt (wpAny_callSpecial?_slot (name:=Str.ofString "__next__") ty sl (wpAny_call_entry sl ty PySem.F.entry_dict_keyiterator_next ?_ (PySem.F.args_dict_keyiterator_next_1 _))))
 refine wpAny_bind (wpAny_pure (wpAny_bind (wpAny_bind ?_)))
 first
  | refine wpAny_bind (wpAny_typeNameOfWhole_keyiter ty (wpAny_pure ?_))
  | refine wpAny_bind (wpAny_typeNameOf_keyiter ty (wpAny_pure ?_))
 refine wpAny_bind (wpAny_fieldsOf ho hd ?_)
 simp only [own,Bool.false_eq_true,if_false]
 show wpAny _ _ (if(Value.ref d==Value.none)=true then _ else _) _ _ s
 rw [if_neg nn]
 refine wpAny_bind (wpAny_pure (wpAny_bind (wpAny_dictEntries hod hdd ?_)))
 rw [if_neg (by simp)]
 refine wpAny_bind (wpAny_pure (wpAny_bind (wpAny_dictEpoch hod hdd ?_)))
 rw [if_neg (by simp)]
 refine wpAny_pure ?_
 have i0:¬((i:Int) < 0):=by lia
 simp only [i0,if_false,Int.toNat_natCast,Array.getElem?_eq_getElem hlt]
 refine wpAny_bind ?_
 first
  | refine wpAny_bind (wpAny_typeNameOfWhole_keyiter ty (wpAny_pure ?_))
  | refine wpAny_bind (wpAny_typeNameOf_keyiter ty (wpAny_pure ?_))
 refine wpAny_bind (wpAny_isOneOf_keyiter ty ?_)
 show wpAny _ _ (setField (.ref it) 1 (rawInt ((i:Int)+1)) >>= _) _ _ s
 refine wpAny_bind (wpAny_setField ho hd (by simp) ?_)
 have nx:(s.heap.update it (Obj.mapFields (·.setIfInBounds 1 (rawInt ((i:Int)+1))))).IsKeyIter it d (i+1) es.size ep:=by
  refine⟨_,Heap.get?_update_self _ ho (Obj.isFreed_of_fields (Obj.data_mapFields hd _)),(Obj.cls_mapFields ..).trans hc,?_⟩
  rw [Obj.data_mapFields hd]
  simp [rawInt]
 refine wpAny_bind (wpAny_holding (wpAny_bind ?_))
 refine wpAny_isOneOf_keyiter (s:={ s with heap:=s.heap.update it (Obj.mapFields (·.setIfInBounds 1 (rawInt ((i:Int)+1)))) }) nx.typeIs ?_
 show wpAny _ _ (pure es[i].key) _ _ _
 exact wpAny_pure (wpAny_pure ⟨_,rfl,wpAny_pure (hQ _ nx (Heap.SameBut.update ..))⟩)
theorem Qc9{it d:Addr}{i ep:Nat}{od:Obj}{es:Array DictEntry}{Q:Option Value->Shared->Prop}(hh:A.handled=none)(hit:s.heap.IsKeyIter it d i es.size ep)(hod:s.heap.get? d=some od)(hdd:od.data=.dict es ep)(hge:es.size<=i)
  (hQ:∀h',Heap.ExtBut it s.heap h'->Q none { s with heap:=h' }):wpAny (model prog w) A (pyNext (.ref it)) Q E s:=by
 obtain⟨o,ho,hc,hd⟩:=id hit
 have ty:=hit.typeIs
 have sl:=PySem.F.slot_dict_keyiterator_next
 have own:Builtin.Dict_items.ownsTuple "dict_keyiterator"=false:=by decide
 have nn:¬((Value.ref d==Value.none)=true):=Bool.false_ne_true
 unfold pyNext
 refine wpAny_bind (wpAny_attempt (wpAny_callSpecial?_slot (name:=Str.ofString "__next__") ty sl (wpAny_call_entry sl ty PySem.F.entry_dict_keyiterator_next ?_ (PySem.F.args_dict_keyiterator_next_1 _))))
 refine wpAny_bind (wpAny_pure (wpAny_bind (wpAny_bind ?_)))
 first
  | refine wpAny_bind (wpAny_typeNameOfWhole_keyiter ty (wpAny_pure ?_))
  | refine wpAny_bind (wpAny_typeNameOf_keyiter ty (wpAny_pure ?_))
 refine wpAny_bind (wpAny_fieldsOf ho hd ?_)
 simp only [own,Bool.false_eq_true,if_false]
 show wpAny _ _ (if(Value.ref d==Value.none)=true then _ else _) _ _ s
 rw [if_neg nn]
 refine wpAny_bind (wpAny_pure (wpAny_bind (wpAny_dictEntries hod hdd ?_)))
 rw [if_neg (by simp)]
 refine wpAny_bind (wpAny_pure (wpAny_bind (wpAny_dictEpoch hod hdd ?_)))
 rw [if_neg (by simp)]
 refine wpAny_pure ?_
 have i0:¬((i:Int) < 0):=by lia
 simp only [i0,if_false,Int.toNat_natCast,Array.getElem?_eq_none hge]
 refine wpAny_bind ?_
 first
  | refine wpAny_bind (wpAny_typeNameOfWhole_keyiter ty (wpAny_pure ?_))
  | refine wpAny_bind (wpAny_typeNameOf_keyiter ty (wpAny_pure ?_))
 show wpAny _ _ (setField (.ref it) 0 .none >>= _) _ _ s
 refine wpAny_bind (wpAny_setField ho hd (by simp) ?_)
 show wpAny _ _ (newExc (.type "StopIteration") [] >>= _) _ _ _
 refine wpAny_bind ?_
 simp only [newExc,newTuple]
 refine wpAny_bind (wpAny_newObj_type ?_ (by size_fits))
 refine wpAny_bind (m:=firstArgMember _ _) (wpAny_of_eq (a:=Value.none) (by first | rfl | (simp only [firstArgMember];rfl)) (wpAny_newObj_type ?_ (by size_fits)))
 simp only [raiseNew]
 refine wpAny_bind (wpAny_handled ?_)
 rw [show A.in1.handled=none from hh]
 refine wpAny_bind (wpAny_pure (wpAny_throw ?_))
 refine wpAny_bind (wpAny_isInstance (T:="StopIteration") (b:=true) ⟨_,Heap.get?_push_size _ rfl,rfl⟩ isSubtype_stop (wpAny_pure (hQ _ ?_)))
 exact((Heap.SameBut.update ..).extBut.push _).push _
theorem Qa9{d:Addr}{ep:Nat}{od:Obj}{es:Array DictEntry}{Q:Value->Shared->Prop}(hm:(d==sysModules)=false)(ho:s.heap.get? d=some od)(hc:od.ExactDict)(hdd:od.data=.dict es ep)
  (hQ:Q (.ref s.heap.objs.size) { s with heap:=s.heap.push { cls:=.type "dict_keyiterator",data:=.fields #[.ref d,.int 0 0,.int es.size 0,.int ep 0] } }):wpAny (model prog w) A (pyIter (.ref d)) Q E s:=by
 have hT:s.TypeIs (.ref d) "dict":=⟨od,ho,hc.1⟩
 have sl:=PySem.F.slot_dict_iter
 refine wpAny_pyIter_slot hT sl (wpAny_call_entry sl hT PySem.F.entry_dict_iter ?_ (PySem.F.args_dict_iter_1 _))
 unfold Builtin.«dict.__iter__» Builtin.Dict.dictSlotNone
 refine wpAny_bind (wpAny_bind (wpAny_notOrdered_dict hT ?_))
 show wpAny _ _ (pure (Value.ref d)) _ _ s
 refine wpAny_pure ?_
 show wpAny _ _ (Builtin.Dict.showsAll d >>= _) _ _ s
 unfold Builtin.Dict.showsAll
 rw [if_neg (by rw [hm];exact Bool.false_ne_true)]
 refine wpAny_bind (wpAny_pure (wpAny_bind (wpAny_dictEntries ho hdd (wpAny_bind (wpAny_dictEpoch ho hdd ?_)))))
 have nxt:=PySem.F.slot_dict_keyiterator_next.lookup
 refine wpAny_bind (wpAny_newObj_type (wpAny_pure ⟨_,rfl,"dict_keyiterator",_,⟨_,Heap.get?_push_size _ rfl,rfl⟩,nxt,?_⟩))
 simpa [rawInt]using hQ
end
section
variable {X:Cx}{pins:List (Addr×Obj)}{σ:St}{H:Hp}{s:Shared}{d:Addr}
theorem Inv.freezeT{kv:List (List Key×V)}(I:Inv X pins σ H s)(h:H d=some (.dT kv)):∃o es ep,s.heap.get? d=some o/\o.ExactDict/\o.data=.dict es ep/\es.size=kv.length/\Inv X pins σ (upd H d (.frz o (.dT kv))) s:=by
 obtain⟨hz,hm,xs,r,o,es,ep,e,c,dt,rr,nd⟩:=(show ObjOk X.prog X.w H s.heap d (.dT kv)from I.hok d _ h)
 have ls:es.size=kv.length:=by
  have:=congrArg List.length rr
  rw [List.length_map,<-Paired.length r]at this
  simpa using this
 refine⟨o,es,ep,e,c,dt,ls,?_⟩
 have ne:∀b ys,H b=some (.tup ys)->b≠d:=fun b ys q z=>by rw [z,h]at q;cases q
 have:=I.write (x:=d) (e:=d) (o:=.frz o (.dT kv)) (h':=s.heap) (t':=s.toks) (by rw [h];trivial) (.inl rfl) (fun b u _ q=>q) ⟨o,e⟩ ⟨e,hz,hm,xs,Paired.imp' (fun p q ⟨a1,a2,a3⟩=>⟨a1,by rw [Qb (ne _ _ a2)];exact a2,a3⟩) r,o,es,ep,e,c,dt,rr,nd⟩
 exact this
theorem Inv.thawT{o:Obj}{kv:List (List Key×V)}(I:Inv X pins σ H s)(h:H d=some (.frz o (.dT kv)))(h0:∀o' u',X.H₀ d≠some (.frz o' u')):Inv X pins σ (upd H d (.dT kv)) s:=by
 have ne:∀{b:Addr},H b=none->b≠d:=fun q z=>by rw [z,h]at q;cases q
 refine⟨I.ok,I.os,I.bare,⟨I.base.keep,I.base.slot,fun b ob q n hx=>?_,I.base.there,fun b xs q=>?_,fun b ob u q=>?_,fun b ps q=>?_⟩,I.loc,I.cell,?_,fun x c e=>?_,fun p hp=>?_,fun b u q=>?_,I.len⟩
 ·have:=I.base.free b ob q n hx
  rw [Qb (ne this)]
  exact this
 ·have:=I.base.tups b xs q
  rw [Qb (fun z=>by rw [z,h]at this;cases this)]
  exact this
 ·have:=I.base.frzs b ob u q
  rw [Qb (fun z=>by subst z;exact h0 _ _ q)]
  exact this
 ·obtain⟨more,e⟩:=I.base.tbls b ps q
  refine⟨more,?_⟩
  rw [Qb (fun z=>by rw [z,h]at e;cases e)]
  exact e
 ·rw [Qb (ne I.free)]
  exact I.free
 ·rw [Qb (ne (I.freeC x c e))]
  exact I.freeC x c e
 ·obtain⟨a1,a2,a3⟩:=I.pin p hp
  exact⟨a1,by rw [Qb (ne a2)];exact a2,a3⟩
 ·by_cases hb:b=d
  ·subst hb
   rw [Qe]at q
   cases q
   obtain⟨_,ok⟩:=I.hok b _ h
   refine ok.stay (fun c v _ r=>r) (fun c r=>?_) fun c xs r=>?_
   ·rw [Qb (fun z=>by rw [z,h]at r;cases r)];exact r
   ·rw [Qb (fun z=>by rw [z,h]at r;cases r)];exact r
  ·rw [Qb hb]at q
   refine(I.hok b u q).stay (fun c v _ r=>r) (fun c r=>?_) fun c xs r=>?_
   ·rw [Qb (fun z=>by rw [z,h]at r;cases r)];exact r
   ·rw [Qb (fun z=>by rw [z,h]at r;cases r)];exact r
end
noncomputable def Qhc(a:Addr)(o:Obj)(kv:List (List Key×V)):It :=
 ⟨fun i H=>H a=some (.frz o (.dT kv))/\i<kv.length,fun i H x H'=>H'=H/\∃p b,kv[i]?=some p/\x=.ref b/\H b=some (.tup (p.1.map kV)),fun i H=>H a=some (.frz o (.dT kv))/\kv.length<=i⟩
theorem Qfj{F:List Key×V->List Key×Addr×Value->Prop}:∀{kv:List (List Key×V)} {xs:List (List Key×Addr×Value)} {i:Nat} {p:List Key×V} {q:List Key×Addr×Value},Paired F kv xs->kv[i]?=some p->xs[i]?=some q->F p q
 | _,_,i,p,q,.nil,h1,h2=>by simp at h1
 | _,_,0,p,q,.cons r t,h1,h2=>by
  simp at h1 h2
  subst h1 h2
  exact r
 | _,_,i+1,p,q,.cons r t,h1,h2=>Qfj (i:=i) t (by simpa using h1) (by simpa using h2)
theorem Qbl{P:Program}{w:World}{K:PySem.W.Frag}{tg:Expr}(a it:Addr)(o:Obj)(kv:List (List Key×V))(es:Array DictEntry)(ep:Nat)(hd:o.data=.dict es ep)(ls:es.size=kv.length):
  Turn P w K tg (Qhc a o kv) [it] it (fun i h=>h.IsKeyIter it a i es.size ep) where
 mem:=by simp
 obj:=fun i h st b hb=>by
  have e:b=it:=by simpa using hb
  subst e
  obtain⟨o,e,c,d⟩:=st
  exact⟨o,e,fun v z=>by rw [d]at z;cases z⟩
 keep:=fun i h h' st k=>by
  obtain⟨o,e,r⟩:=st
  exact⟨o,k it (by simp) o e,r⟩
 item:=by
  intro X hP hw hK hc i pins s σ H E I hf st hg
  subst hP hw hK
  obtain⟨f0,f1,f2,f3,f4,f5⟩:=hf it (by simp)
  obtain⟨hg,hi⟩:=hg
  obtain⟨eo,hz,hm,xs,rr,o',es',ep',e',c',dt',r',nd⟩:=I.hok a _ hg
  rw [eo]at e';cases e'
  rw [hd]at dt';cases dt'
  have hl:=Paired.length rr
  have hi':i<xs.length:=by lia
  have lt:i<es.size:=by lia
  refine Qa0 st eo hd lt fun h' hit sb=>?_
  have I1:Inv X pins σ H { s with heap:=h' }:=I.turned (t':=s.toks) (fun b o hb e=>(sb.2 b hb).trans e) f0 f1 f3 f4 f5
  obtain⟨oi,e,c,dd⟩:=id hit
  obtain⟨k1,k2,k3⟩:=Qfj rr (List.getElem?_eq_getElem hi) (List.getElem?_eq_getElem hi')
  have ek:es[i].key=.ref xs[i].2.1:=by
   have z:es.toList[i]?=(xs.map (entryOfKey (tupleKind (QB X.prog X.w))))[i]?:=by rw [r']
   rw [List.getElem?_map,List.getElem?_eq_getElem hi',List.getElem?_eq_getElem (by simpa using lt)]at z
   have:=congrArg DictEntry.key (Option.some.inj z)
   have y:es[i].key=(entryOfKey (tupleKind (QB X.prog X.w)) xs[i]).key:=by simpa using this
   exact y.trans rfl
  refine⟨es[i].key,rfl,Qas (s:={ s with heap:=h' }) e c dd (by decide) ⟨.ref xs[i].2.1,H,I1,by rw [ek];rfl,⟨rfl,kv[i],xs[i].2.1,List.getElem?_eq_getElem hi,rfl,k2⟩,hit,fun b hb=>(hf b hb).1⟩⟩
 done:=by
  intro X hP hw hK hc i pins s σ H E I hf st hg
  subst hP hw hK
  obtain⟨f0,f1,f2,f3,f4,f5⟩:=hf it (by simp)
  obtain⟨hg,hi⟩:=hg
  obtain⟨eo,_⟩:=I.hok a _ hg
  exact Qc9 (I.ok.hd hc) st eo hd (by lia) fun h' eb=>⟨rfl,I.turned (t':=s.toks) (fun b o hb e=>eb b o hb e) f0 f1 f3 f4 f5⟩
 self:=fun _ _ _ _ _ st h=>wpAny_pyIter_keyiter st h
section
variable {X:Cx}
noncomputable def QiI(te:TE):TI:=fun σ H R=>te σ H fun x H1=>∃a kv,x=.ref a/\H1 a=some (.dT kv)/\∀o,R (Qhc a o kv) (upd H1 a (.frz o (.dT kv)))
theorem Qef{tg e:Expr}{te:TE}(he:PE X e te):PI X tg e (QiI te):=by
 intro pins s σ H R I h
 refine thn (he pins s σ H _ I h) fun u s1 ⟨x,H1,I1,rx,q1⟩=>?_
 obtain⟨a,kv,rfl,hk,q⟩:=q1
 cases rx
 have hm:(a==sysModules)=false:=(show ObjOk X.prog X.w H1 s1.heap a (.dT kv)from I1.hok a _ hk).2.1
 obtain⟨o,es,ep,eo,hc,hd,ls,I2⟩:=I1.freezeT hk
 refine Qa9 hm eo hc hd ?_
 refine⟨s1.heap.objs.size,[s1.heap.objs.size],_,Qhc a o kv,_,rfl,I2.kept (t':=s1.toks) fun b o e=>Heap.get?_push_of_some _ e,Qbl a _ o kv es ep hd ls,⟨_,Heap.get?_push_size _ rfl,rfl,rfl⟩,fun b hb=>?_,q o⟩
 have e:b=s1.heap.objs.size:=by simpa using hb
 subst e
 exact I2.fpOk (Nat.le_refl _) (I2.hok.fresh (Nat.le_refl _))
noncomputable def QaL(d:Addr)(P:Hp->Prop)(H':Hp):Prop:=∃o kv,H' d=some (.frz o (.dT kv))/\P (upd H' d (.dT kv))
noncomputable def QhL(ts:TS):TS:=fun D σ H=>∃d kv,H d=some (.dT kv)/\ts ⟨fun σ'=>QaL d (D.nx σ'),fun v=>QaL d (D.rt v),fun σ'=>QaL d (D.bk σ'),fun σ'=>QaL d (D.ct σ')⟩ σ H
theorem Qea{st:Stmt}{ts:TS}(h:PS X st ts):PS X st (QhL ts):=by
 intro pins s σ H D I q
 obtain⟨d,kv,hk,q⟩:=q
 have h0:∀o' u',X.H₀ d≠some (.frz o' u'):=fun o' u' z=>by
  have:=I.base.frzs d o' u' z
  rw [hk]at this
  cases this
 refine thn (h pins s σ H _ I q) fun f s' hf=>?_
 cases f with
 | next=>obtain⟨σ',H',I',o,kv',e,p⟩:=hf;exact⟨σ',_,I'.thawT e h0,p⟩
 | brk=>obtain⟨σ',H',I',o,kv',e,p⟩:=hf;exact⟨σ',_,I'.thawT e h0,p⟩
 | cont=>obtain⟨σ',H',I',o,kv',e,p⟩:=hf;exact⟨σ',_,I'.thawT e h0,p⟩
 | ret u=>obtain⟨v,σ',H',I',rv,o,kv',e,p⟩:=hf;exact⟨v,σ',_,I'.thawT e h0,rv,p⟩
end
end L2
namespace L2
open PySem PySem.Spec PyProof.Rows
section
variable {prog:Program}{w:World}{A:Around}{E:Value->Shared->Prop}{s:Shared}
theorem Jb{d:Addr}(hd:(d==sysModules)=false):
  MeetsIn prog w (Builtin.«dict.__len__» ⟨[.ref d],[]⟩) (fun _ R s=>∃od es ep,s.heap.get? d=some od/\od.data=.dict es ep/\R (.ok (.ret (.int es.size s.toks))) { s with toks:=s.toks+1 }):=
 .of_wp fun A R s ⟨od,es,ep,ho,hdat,h⟩=>by
  show wpAny _ _ (dictSize d >>= _) _ _ s
  unfold dictSize
  refine wpAny_bind (wpAny_bind (wpAny_dictEntries ho hdat (wpAny_pure ?_)))
  show wpAny _ _ (Builtin.Dict.pendingCount d >>= _) _ _ s
  refine wpAny_bind (wpAny_pendingCount_other hd (wpAny_ret_mkInt ?_))
  rw [Nat.add_zero]
  exact h
theorem Qgt{d:Addr}{od:Obj}{es:Array DictEntry}{ep:Nat}{Q:Value->Shared->Prop}(hd:(d==sysModules)=false)(ho:s.heap.get? d=some od)(hc:od.ExactDict)(hdat:od.data=.dict es ep)(hfit:(es.size:Int) < 2 ^ 63)
  (h:Q (.int es.size (s.toks+1)) { s with toks:=s.toks+1+1 }):wpAny (model prog w) A (call (.builtin "len") [.ref d]) Q E s:=by
 have hT:s.TypeIs (.ref d) "dict":=⟨od,ho,hc.1⟩
 have sl:=PySem.F.slot_dict_len
 refine Calls.call_function_entry kind_len plain_len entry_len (args_len1 _) ?_
 unfold Builtin.«len»
 refine wpAny_bind (m:=oneArg "len" _) (wpAny_pure (wpAny_bind (m:=callSpecial? (.ref d) (Str.ofString "__len__")) ?_))
 refine wpAny_callSpecial?_slot (name:=Str.ofString "__len__") hT sl (call_meetsIn sl hT PySem.F.entry_dict_len (PySem.F.args_dict_len_1 _) (Jb hd) ⟨od,es,ep,ho,hdat,?_⟩)
 show wpAny _ _ _ _ _ { s with toks:=s.toks+1 }
 refine wpAny_bind (wpAny_holding (wpAny_pure (wpAny_bind (wpAny_letGo ?_))))
 show wpAny _ _ (if((es.size:Nat):Int) < 0 then _ else _) _ _ _
 rw [if_neg (by lia)]
 show wpAny _ _ (if((es.size:Nat):Int)≥2 ^ 63 then _ else _) _ _ _
 rw [if_neg (by lia)]
 exact wpAny_bind (wpAny_mkInt (wpAny_pure ⟨_,rfl,h⟩))
end
theorem Qdo {X : Cx} : CallR X (.builtin "len") (fun xs H Q => ∃ a kvs, xs = [V.ref a] /\ H a = some (.dT kvs) /\ Q (.int kvs.length) H) := by
 intro pins s σ H xs us Q I r h
 obtain⟨a,kvs,rfl,ha,q⟩:=h
 obtain⟨u,rfl,ru⟩:=Jr r
 cases ru
 obtain⟨hz,hm,ys,rr,o,es,ep,e,c,dt,r',nd⟩:=(show ObjOk X.prog X.w H s.heap a (.dT kvs)from I.hok a _ ha)
 have ls:es.size=kvs.length:=by
  have:=congrArg List.length r'
  rw [List.length_map,<-Paired.length rr]at this
  simpa using this
 refine Qgt hm e c dt (by rw [ls];rw [sizeLine_eq]at hz;lia) ⟨.int kvs.length,H,?_,⟨_,by rw [ls]⟩,q⟩
 exact I.tok _
end L2
namespace L2
open PySem PySem.Spec PyProof.Rows
section
variable {prog:Program}{w:World}{A:Around}{E:Value->Shared->Prop}{s:Shared}
theorem QbO(hh:A.handled=none)(I d:Addr)(hne:d≠I)(od:Obj)(es:Array DictEntry)(ep:Nat)(hdd:od.data=.dict es ep):
  Walks prog w A I [I,d] [I] es.size (fun i v=>∃e,es[i]?=some e/\v=e.key) (fun i h=>h.IsKeyIter I d i es.size ep/\h.get? d=some od) where
 sub:=fun b hb=>by simp at hb;simp [hb]
 frame:=fun _ _ _ st hk=>⟨st.1.at fun o e=>hk I (by simp) o e,hk d (by simp) _ st.2⟩
 item:=fun i s Q E hi st hQ=>by
  refine Qa0 st.1 st.2 hdd hi fun h' hit sb=>?_
  exact hQ _ h' s.toks ⟨es[i],by simp [hi],rfl⟩ ⟨hit,(sb.2 d hne).trans st.2⟩ fun b o hb e=>(sb.2 b fun z=>hb (by simp [z])).trans e
 done:=fun s Q E st hQ=>Qc9 hh st.1 st.2 hdd (Nat.le_refl _) fun h' eb=>hQ h' s.toks fun b o hb e=>eb b o (fun z=>hb (by simp [z])) e
 self:=fun _ _ _ _ st hQ=>wpAny_pyIter_keyiter st.1 hQ
theorem Jf:typeLookup (.type "dict") "__len__"=pure (some (.builtin "dict.__len__")):=by rw [typeLookup_type,builtinLookup_eq_fast];kernel_rfl
theorem QbD{R:Result->Shared->Prop}{d:Addr}{od:Obj}{es:Array DictEntry}{ep:Nat}(hh:A.handled=none)(hm:(d==sysModules)=false)(ho:s.heap.get? d=some od)(hc:od.ExactDict)(hdd:od.data=.dict es ep)(hn:es.size<=sizeLine)(S:Addr)(res:Value)(c₀:Nat)
  (hS:s.heap.get? S=some { cls:=.type "list",data:=.seq #[] c₀ }) (hSd:S≠d)
  (hR:∀h' tk acc' c',(∀b o,b≠S->s.heap.get? b=some o->h'.get? b=some o)->h'.get? S=some { cls:=.type "list",dict:=none,data:=.seq acc' c',slots:=#[] } ->
   ItemsOf (fun i v=>∃e,es[i]?=some e/\v=e.key) acc' es.size->R (.ok (.ret res)) { s with heap:=h',toks:=tk }):
  wpAny (model prog w) A.in1 (Builtin.List.listExtendWith (.ref S) (.ref d) res)
   (fun fin s'=>match fin with | .done f=>R (.ok f) s' | .again c'=>c'.quiet=true/\codeAny (model prog w) A c' R s') (fun e s'=>R (.error e) s') s:=by
 have hTy:s.TypeIs (.ref d) "dict":=⟨od,ho,hc.1⟩
 unfold Builtin.List.listExtendWith
 refine wpAny_bind (wpAny_typeOf hTy ?_)
 have h1:Builtin.List.listSameRef (.ref S) (.ref d)=false:=by simp [Builtin.List.listSameRef,hSd]
 have h2:(Value.type "dict"==Value.type "list")=false:=by decide
 have h3:(Value.type "dict"==Value.type "tuple")=false:=by decide
 simp only [h1,h2,h3,Bool.or_false,Bool.false_eq_true,if_false]
 refine wpAny_bind (Qa9 hm ho hc hdd ?_)
 generalize hI:s.heap.objs.size=I
 have ltS:=Heap.lt_size hS
 have ltd:=Heap.lt_size ho
 have hSI:S≠I:=by rw [<-hI];exact Nat.ne_of_lt ltS
 have hne:d≠I:=by rw [<-hI];exact Nat.ne_of_lt ltd
 generalize hit0:({ cls:=.type "dict_keyiterator",data:=.fields #[.ref d,.int 0 0,.int es.size 0,.int ep 0] }:Obj)=oI
 have hit:(s.heap.push oI).IsKeyIter I d 0 es.size ep:=by
  rw [<-hI,<-hit0]
  exact⟨_,Heap.get?_push_size _ rfl,rfl,rfl⟩
 have kp:∀b o,s.heap.get? b=some o->(s.heap.push oI).get? b=some o:=fun b o e=>Heap.get?_push_of_some _ e
 generalize s.heap.push oI=h2' at hit kp ⊢
 have hTy2:Shared.TypeIs { s with heap:=h2' } (.ref d) "dict":=⟨od,kp _ _ ho,hc.1⟩
 refine wpAny_bind (wpAny_holding ?_)
 unfold Builtin.List.listLengthHint
 refine wpAny_bind (wpAny_specialOf hTy2 Jf ?_)
 generalize hid:("dict.__len__":String)=id0
 wp_delta
 rw [show splitId id0=some ("dict","__len__")from by subst hid;decide +kernel]
 subst hid
 refine wpAny_bind (wpAny_isInstance (T:="dict") (b:=true) hTy2 (by rw [isSubtype_type];kernel_rfl) ?_)
 refine wpAny_ite_split (fun hab=>absurd hab (by decide)) (fun _=>?_)
 refine wpAny_ite_split (fun _=>?_) (fun hab=>absurd (by decide +kernel) hab)
 refine wpAny_bind (wpAny_typeOf hTy2 ?_)
 refine wpAny_pure ?_
 rw [if_pos (by decide +kernel)]
 refine wpAny_bind (wpAny_rule ?_)
 have hS2:=kp _ _ hS
 unfold Builtin.List.listTouch
 refine wpAny_bind (wpAny_bind (wpAny_updateSeq (a:=S) (f:=(·.push .none)) hS2 rfl ?_))
 have hS3:=Heap.get?_update_self (Obj.mapSeq (·.push Value.none)) hS2 rfl
 refine wpAny_updateSeq (a:=S) (f:=(·.pop)) hS3 rfl ?_
 have hS4:=Heap.get?_update_self (Obj.mapSeq (·.pop)) hS3 rfl
 have oth:∀b o,b≠S->h2'.get? b=some o->((h2'.update S (Obj.mapSeq (·.push Value.none))).update S (Obj.mapSeq (·.pop))).get? b=some o :=
  fun b o hb e=>(Heap.get?_update_other _ _ (Ne.symm hb)).trans ((Heap.get?_update_other _ _ (Ne.symm hb)).trans e)
 have W:=(QbO (prog:=prog) (w:=w) (A:=A.in1) hh I d hne od es ep hdd).toS
 have hSf:S∉[I,d]:=fun hm=>by
  rcases List.mem_cons.mp hm with e | hm
  ·exact hSI e
  ·exact hSd (List.mem_singleton.mp hm)
 refine wpAny_pure ⟨plainId_quiet F.plain_extend_loop _,codeAny_extend_loopS W hn S hSf res es.size 0 _ #[] _ rfl (Nat.zero_le _) ⟨hit.at fun o e=>oth _ _ (Ne.symm hSI) e,oth _ _ (Ne.symm hSd) (kp _ _ ho)⟩ hS4 (ItemsOf.nil _) fun s' acc' c' hmv hS' hacc=>?_⟩
 rw [Moved.eq_with hmv]
 refine hR s'.heap s'.toks acc' c' (fun b o hb e=>hmv.heap b o (fun hmem=>?_) (oth b o hb (kp b o e))) hS' hacc
 rcases List.mem_cons.mp hmem with e' | hmem
 ·exact hb e'
 ·have:=List.mem_singleton.mp hmem
  exact Nat.ne_of_lt (Heap.lt_size e) (this.trans hI.symm)
theorem Jj{Q:Value->Shared->Prop}{d:Addr}{od:Obj}{es:Array DictEntry}{ep:Nat}(hh:A.handled=none)(hm:(d==sysModules)=false)(ho:s.heap.get? d=some od)(hc:od.ExactDict)(hdd:od.data=.dict es ep)(hn:es.size<=sizeLine)
  (hQ:∀h' tk acc' c',(∀b o,s.heap.get? b=some o->h'.get? b=some o) ->
   h'.get? s.heap.objs.size = some { cls := .type "list", dict := none, data := .seq acc' c', slots := #[] } -> ItemsOf (fun i v => ∃ e, es[i]? = some e /\ v = e.key) acc' es.size -> Q (.ref s.heap.objs.size) { s with heap := h', toks := tk }) :
  wpAny (model prog w) A (call (.type "list") [.ref d]) Q E s:=by
 refine callType_codes (Q₁ := fun obj s₁ => obj = .ref s.heap.objs.size /\ s₁ = { s with heap := s.heap.push { cls := .type "list", data := .seq #[] } }) F.called_list (F.typeCall_list_1 _) F.entry_list_init
  (code_list_new _ ⟨rfl,rfl⟩) fun obj s₁ h₁=>?_
 obtain⟨rfl,rfl⟩:=h₁
 have hS:(s.heap.push { cls:=.type "list",data:=.seq #[] }).get? s.heap.objs.size=some { cls:=.type "list",data:=.seq #[] }:=Heap.get?_push_size _ rfl
 have hL:s.heap.objs.size≠d:=Ne.symm (Nat.ne_of_lt (Heap.lt_size ho))
 refine⟨⟨_,hS,rfl⟩,F.args_list_init_2 _ _,?_⟩
 show wpAny _ _ (do let old <-Builtin.List.listItems (.ref s.heap.objs.size);Builtin.List.listUpdate (.ref s.heap.objs.size) (fun _=>#[]);letGo old.toList.reverse;Builtin.List.listExtendWith (.ref s.heap.objs.size) (.ref d) .none) _ _ _
 refine wpAny_bind ?_
 unfold Builtin.List.listItems
 refine wpAny_bind (wpAny_seqItems hS rfl (wpAny_pure ?_))
 show wpAny _ _ (updateSeq s.heap.objs.size (fun _=>#[]) >>= fun _=>letGo (#[]:Array Value).toList.reverse >>= fun _=>Builtin.List.listExtendWith (.ref s.heap.objs.size) (.ref d) .none) _ _ _
 refine wpAny_bind (wpAny_updateSeq hS rfl ?_)
 have hS₂:=Heap.get?_update_self (Obj.mapSeq (fun _=>(#[]:Array Value))) hS rfl
 have oth:∀b o,s.heap.get? b=some o->((s.heap.push { cls:=.type "list",data:=.seq #[] }).update s.heap.objs.size (Obj.mapSeq (fun _=>(#[]:Array Value)))).get? b=some o :=
  fun b o e=>(Heap.get?_update_other _ _ (Ne.symm (Nat.ne_of_lt (Heap.lt_size e)))).trans (Heap.get?_push_of_some _ e)
 refine wpAny_bind (wpAny_letGo ?_)
 refine QbD (A:=A.in1) hh hm (oth _ _ ho) hc hdd hn _ .none _ hS₂ hL fun h' tk acc' c' hk hS' hacc=>?_
 exact⟨rfl,hQ h' tk acc' c' (fun b o e=>hk b o (Nat.ne_of_lt (Heap.lt_size e)) (oth b o e)) hS' hacc⟩
end
theorem ZJ:∀ys:List (List Key×Addr×Value),Vals ((ys.map (·.2.1)).map V.ref) (ys.map fun y=>Value.ref y.2.1)
 | []=>.nil
 | y::ys=>.cons rfl (ZJ ys)
theorem Qi2{H:Hp}:∀{kvs:List (List Key×V)} {ys:List (List Key×Addr×Value)},Paired (fun(p:List Key×V) (q:List Key×Addr×Value)=>p.1=q.1/\H q.2.1=some (.tup (p.1.map kV))/\RelV p.2 q.2.2) kvs ys ->
  Paired (fun(p:List Key×V) b=>H b=some (.tup (p.1.map kV))) kvs (ys.map (·.2.1))
 | _,_,.nil=>.nil
 | _,_,.cons h t=>.cons h.2.1 (Qi2 t)
theorem Qby{P:Program}{w:World}{es:Array DictEntry}{ys:List (List Key×Addr×Value)}{acc:Array Value}(r:es.toList=ys.map (entryOfKey (tupleKind (QB P w))))(h:ItemsOf (fun i v=>∃e,es[i]?=some e/\v=e.key) acc es.size):acc.toList=ys.map fun y=>Value.ref y.2.1:=by
 have ls:es.size=ys.length:=by
  have:=congrArg List.length r
  simpa using this
 refine List.ext_getElem? fun i=>?_
 by_cases hi:i<ys.length
 ·have hs:acc.size=es.size:=h.1
  have hi':i<acc.size:=by lia
  obtain⟨e,he,ev⟩:=h.2 i acc[i] (by simp [hi'])
  have z:es.toList[i]?=(ys.map (entryOfKey (tupleKind (QB P w))))[i]?:=by rw [r]
  rw [List.getElem?_map,List.getElem?_eq_getElem hi,Array.getElem?_toList,he]at z
  have ee:e=entryOfKey (tupleKind (QB P w)) ys[i]:=Option.some.inj z
  rw [List.getElem?_map,List.getElem?_eq_getElem hi]
  have ea:acc.toList[i]?=some acc[i]:=by simp [hi']
  rw [ea,ev,ee]
  rfl
 ·have hs:acc.size=es.size:=h.1
  rw [List.getElem?_eq_none (by simp;lia),List.getElem?_eq_none (by simp;lia)]
theorem QbH {X : Cx} (hc : X.calm = true) : CallR X (.type "list") (fun xs H Q => ∃ a kvs, xs = [V.ref a] /\ H a = some (.dT kvs) /\ ∀ bs : List Addr, Paired (fun (p : List Key × V) b => H b = some (.tup (p.1.map kV))) kvs bs -> ∀ p, H p = none -> Q (.ref p) (upd H p (.lst (bs.map V.ref)))) := by
 intro pins s σ H xs us Q I r h
 obtain⟨a,kvs,rfl,ha,q⟩:=h
 obtain⟨u,rfl,ru⟩:=Jr r
 cases ru
 obtain⟨hz,hm,ys,rr,o,es,ep,e,c,dt,r',nd⟩:=(show ObjOk X.prog X.w H s.heap a (.dT kvs)from I.hok a _ ha)
 have lk:=Paired.length rr
 have ls:es.size=kvs.length:=by
  have:=congrArg List.length r'
  rw [List.length_map,<-lk]at this
  simpa using this
 refine Jj (I.ok.hd hc) hm e c dt (by rw [ls];exact hz) fun h' tk acc c' kp hS hacc=>?_
 refine⟨.ref s.heap.objs.size,_,I.laid (t':=tk) (o:=.lst ((ys.map (·.2.1)).map V.ref)) (a:=s.heap.objs.size) kp (Nat.le_refl _) ?_,rfl,q _ (Qi2 rr) _ (I.hok.fresh (Nat.le_refl _))⟩
 have v:=ZJ ys
 rw [<-Qby r' hacc]at v
 exact⟨by simp only [List.length_map];rw [<-lk];exact hz,acc.toList,c',v,by simpa using hS⟩
end L2
namespace Iv
open PySem
inductive U where
 | non | bl (b:Bool) | int (i:Int) (m:Nat) | str (x:List Nat) | ref (n:Nat) | con (k:Nat) | scr
 deriving DecidableEq,Inhabited
inductive O where
 | lst (xs:List U) | tup (xs:List U) | ins (C:Nat) (fs:List (Nat×U)) | dic (kvs:List (U×U)) | dct (kvs:List (List U×U)) | fzd (kvs:List (U×U)) | fzt (kvs:List (List U×U)) | err (c:Nat)
 deriving DecidableEq,Inhabited
noncomputable abbrev Hs:=List O
noncomputable abbrev Rho:=List (Option U)
inductive Bi where
 | len | int | str | tuple | list | sum | any | all | max | min | abs | sorted | dict
 deriving DecidableEq,Inhabited
inductive Bm where
 | append | pop | clear | reverse | extend | setdef | get | update | join | split | find | insert | index
 deriving DecidableEq,Inhabited
inductive Ty where
 | non | bool | int | str | list | tuple | dict | cls (c:Nat) | vale
 deriving DecidableEq,Inhabited
mutual
inductive E where
 | c (u:U) | var (i:Nat) | con (k:Nat)
 | op (o:Operator) (a b:E) | neg (a:E) | cmp (o:CmpOp) (a b:E)
 | and (a b:E) | or (a b:E) | not (a:E) | ife (t a b:E)
 | tup (es:List E) | lst (es:List E) | dis (kvs:List (U×U)) (b:E)
 | ix (a b:E) | tab (k:Nat) (b:E) | sl (a:E) (lo hi:Option E) | rev (a:E) | tupR (es:List E)
 | fld (a:E) (f:Nat)
 | call (f:Nat) (es:List E) | meth (m:Nat) (o:E) (es:List E) | make (k:Nat) (es:List E)
 | bi (b:Bi) (es:List E) | isi (a:E) (t:Ty) | bm (b:Bm) (o:E) (es:List E)
 | comp (s:Src) (b:Bool) (t:Option E) (el:E) | dnew | dnewT | zap (e:E) | dsp (ks:List U) (es:List E) | chain (o o':CmpOp) (a b c:E)
inductive Src where
 | seq (e:E) | rng (a:E) | rng2 (a b:E) | rngA (es:List E) | zip (a b:E) | revd (e:E) | enm (e:E) | rngR (a:E)
inductive Tg where
 | name (i:Nat) | pair (i j:Nat)
end
inductive S where
 | pass | expr (e:E) | set (i:Nat) (e:E) | fld (o:E) (f:Nat) (e:E) | ret (e:E) | retN
 | ite (t:E) (a b:List S) | loop (t:Tg) (s:Src) (body:List S) | loopC (i:Nat) (e:E) (body:List S) | loopK (i:Nat) (e:E) (body:List S) | loopD (i:Nat) (e:E) (body:List S) | while (t:E) (body:List S)
 | brk | cont
 | aug (i:Nat) (o:Operator) (e:E) | bad
 | put (o i e:E) | unp (i j:Nat) (e:E) | par (i j:Nat) (a b:E)
 | rse (c:Nat) (es:List E) | tryS (j:Option Nat) (f:Nat) (es:List E) (c:Nat) (body:List S) | cal (n:S) (f:Nat) (es:List E)
inductive Fl where
 | next | brk | cont | ret (u:U)
structure Fn where
 name:Str
 qual:Str
 st:Stmt
 ps:List Str
 N:List Str
 np:Nat
 nN:Nat
 lc:Bool
 body:List S
structure Cl where
 name:Str
 init:Option Nat
 meths:List (Nat×Nat)
 subs:List Nat
inductive Co where
 | tup (xs:List U) | lst (xs:List U) | tab (kvs:List (U×U))
 deriving Inhabited
structure Df where
 ps:List Str
 np:Nat
 last:Str
 ds:List U
structure Tbl where
 fns:List Fn
 cls:List Cl
 cons:List Co
 fns':List Str
 mns:List Str
 scr:List U
 isi:List ((Ty×Ty)×Bool)
 dfl:List (Nat×Df)
 dts:List Str:=[]
 zps:List Str:=[]
 ld:Bool:=false
 ers:List Nat:=[]
 esb:List (Nat×Nat):=[]
 pss:List Nat:=[]
 efl:List (Nat×Nat):=[]
 xf:Nat->List U->Hs->Option (Nat×Hs):=fun _ _ _=>none
noncomputable def bd{α β:Type}(o:Option (α×Hs))(f:α->Hs->Option β):Option β:=match o with
 | none=>none
 | some (a,h)=>f a h
theorem Qc{α β:Type}{o:Option (α×Hs)}{f:α->Hs->Option β}{r:β}(h:bd o f=some r):∃a h',o=some (a,h')/\f a h'=some r:=by
 unfold bd at h
 cases o with
 | none=>cases h
 | some p=>exact⟨p.1,p.2,rfl,h⟩
noncomputable def gz:Nat->Nat->Nat
 | 0,n=>n
 | m+1,n=>Nat.gcd (m+1) n
noncomputable def Ql(i:Int):Bool:=decide (-(2 ^ 64) < i)&&decide (i<2 ^ 64)
noncomputable def Jn(i:Int):Bool:=decide (i.natAbs<2 ^ 4096)
noncomputable def QjM:U->U->Option U
 | .int i m,.int j n=>some (.int (i-j) (gz m n))
 | _,_=>none
noncomputable def Qiv:U->U->Option U
 | .int i 0,.int j 0=>if Ql i||Ql j||(Jn i&&Jn j)then some (.int (i*j) 0)else none
 | .int i (m+1),.int j 0=>if Ql j then some (.int (i*j) ((m+1)*j.natAbs))else none
 | _,_=>none
noncomputable def QiT:U->U->Option U
 | .int i 0,.int j 0=>if 0<j&&decide (j<1606938044258990275541962092341162602522202993782792835301376)then some (.int (i / j) 0)else none
 | .int i (m+1),.int j 0=>if 0<j&&decide (j<1606938044258990275541962092341162602522202993782792835301376)&&decide ((m+1) % j.toNat=0)then some (.int (i / j) ((m+1) / j.toNat))else none
 | _,_=>none
noncomputable def Qer:U->U->Option U
 | .int i 0,.int j 0=>if 0<j then some (.int (i % j) 0)else none
 | .int i (m+1),.int j 0=>if 0<j&&decide ((m+1) % j.toNat=0)then some (.int (i % j) 0)else none
 | _,_=>none
noncomputable def Qjl:U->U->Option U
 | .int i 0,.int j 0=>if 0<=j&&decide (j<=1000)&&Ql i then some (.int (i ^ j.toNat) 0)else none
 | _,_=>none
noncomputable def QlD(a b:Nat)(x y:O)(hs:Hs):Option (U×Hs):=match x,y with
 | .lst xs,.lst ys=>if xs.length+ys.length<=1000000 then some (.ref hs.length,hs++[.lst (xs++ys)])else none
 | .tup xs,.tup ys=>if xs.isEmpty then some (.ref b,hs)else if xs.length+ys.length<=1000000 then(if ys.isEmpty then some (.ref a,hs)else some (.ref hs.length,hs++[.tup (xs++ys)]))else none
 | _,_=>none
noncomputable def ZA(u w:U)(hs:Hs):Option (U×Hs):=match u,w with
 | .int i m,.int j n=>some (.int (i+j) (gz m n),hs)
 | .str x,.str y=>if x.length+y.length<=1000000 then some (.str (x++y),hs)else none
 | .ref a,.ref b=>match hs[a]?,hs[b]? with
  | some x,some y=>QlD a b x y hs
  | _,_=>none
 | _,_=>none
noncomputable def Qlb(a:Nat)(w:U)(hs:Hs):Option (U×Hs):=match hs[a]?,w with
 | some (.lst xs),.int k 0=>if -9223372036854775808<=k/\k<9223372036854775808/\xs.length*k.toNat<=1000000 then some (.ref hs.length,hs++[.lst (List.replicate k.toNat xs).flatten])else none
 | _,_=>none
noncomputable def opU(o:Operator)(u w:U)(hs:Hs):Option (U×Hs):=match o with
 | .Add=>ZA u w hs
 | .Sub=>(QjM u w).map fun r=>(r,hs)
 | .Mult=>(match u with
  | .ref a=>Qlb a w hs
  | u=>(Qiv u w).map fun r=>(r,hs))
 | .FloorDiv=>(QiT u w).map fun r=>(r,hs)
 | .Mod=>(Qer u w).map fun r=>(r,hs)
 | .Pow=>(Qjl u w).map fun r=>(r,hs)
 | _=>none
noncomputable def eqS:U->U->Option Bool
 | .int i 0,.int j 0=>some (decide (i=j))
 | .str x,.str y=>some (decide (x=y))
 | .bl a,.bl b=>some (decide (a=b))
 | .non,.non=>some true
 | .non,.int _ _=>some false | .int _ _,.non=>some false | .non,.bl _=>some false | .bl _,.non=>some false | .non,.str _=>some false | .str _,.non=>some false
 | .int _ _,.str _=>some false | .str _,.int _ _=>some false | .bl _,.str _=>some false | .str _,.bl _=>some false
 | _,_=>none
noncomputable def Z5(T:Tbl)(u:U)(hs:Hs):Option (List U):=match u with
 | .ref n=>match hs[n]? with
  | some (.lst xs)=>some xs
  | some (.tup xs)=>some xs
  | _=>none
 | .con k=>match T.cons[k]? with
  | some (.lst xs)=>some xs
  | some (.tup xs)=>some xs
  | _=>none
 | .scr=>some T.scr
 | _=>none
noncomputable def Qav:U->Bool
 | .int _ 0=>true
 | .str _=>true
 | .non=>true
 | _=>false
noncomputable def eqF:U->U->Bool
 | .int i _,.int j _=>decide (i=j)
 | .str x,.str y=>decide (x=y)
 | .non,.non=>true
 | _,_=>false
noncomputable def inU(x:U)(ys:List U):Option Bool:=if Qav x&&ys.all Qav then some (ys.any fun y=>eqF y x)else none
noncomputable def Zb(T:Tbl)(u:U)(hs:Hs):Option (List U):=match u with
 | .ref n=>match hs[n]? with
  | some (.lst xs)=>some xs
  | _=>none
 | .con k=>match T.cons[k]? with
  | some (.lst xs)=>some xs
  | _=>none
 | .scr=>some T.scr
 | _=>none
noncomputable def Yb(T:Tbl)(u:U)(hs:Hs):Option (List U):=match u with
 | .ref n=>match hs[n]? with
  | some (.tup xs)=>some xs
  | _=>none
 | .con k=>match T.cons[k]? with
  | some (.tup xs)=>some xs
  | _=>none
 | _=>none
noncomputable def okW(T:Tbl):Nat->U->Hs->Bool
 | 0,_,_=>false
 | n+1,u,hs=>match Zb T u hs with
  | some xs=>xs.all fun x=>okW T n x hs
  | none=>match Yb T u hs with
   | some xs=>xs.all fun x=>okW T n x hs
   | none=>match u with
    | .non=>true
    | .bl _=>true
    | .int _ m=>m==0
    | .str x=>x.all fun c=>decide (c<128)
    | _=>false
noncomputable def eqB:U->U->Bool
 | .non,.non=>true
 | .bl a,.bl b=>a==b
 | .bl a,.int j _=>(if a then 1 else 0)==j
 | .int i _,.bl b=>i==(if b then 1 else 0)
 | .int i _,.int j _=>i==j
 | .str x,.str y=>x==y
 | _,_=>false
noncomputable def eqW(T:Tbl):Nat->U->U->Hs->Bool
 | 0,_,_,_=>false
 | n+1,u,w,hs=>match Zb T u hs with
  | some xs=>(match Zb T w hs with
   | some ys=>(xs.length==ys.length)&&(xs.zip ys).all fun p=>eqW T n p.1 p.2 hs
   | none=>false)
  | none=>match Yb T u hs with
   | some xs=>(match Zb T w hs with
    | some _=>false
    | none=>match Yb T w hs with
     | some ys=>(xs.length==ys.length)&&(xs.zip ys).all fun p=>eqW T n p.1 p.2 hs
     | none=>false)
   | none=>(match Zb T w hs with
    | some _=>false
    | none=>match Yb T w hs with
     | some _=>false
     | none=>eqB u w)
noncomputable def JH(T:Tbl)(u w:U)(hs:Hs):Bool:=match Zb T u hs,Zb T w hs with
 | some xs,some ys=>decide (xs.length≠ys.length)
 | _,_=>false
noncomputable def Qb4(T:Tbl)(u w:U)(hs:Hs):Bool:=match Zb T u hs,Zb T w hs with
 | some xs,some ys=>decide (xs=ys)&&xs.all fun x=>match x with | .ref _=>true | _=>false
 | _,_=>false
noncomputable def eqA(T:Tbl)(u w:U)(hs:Hs):Option Bool:=match eqS u w with
 | some b=>some b
 | none=>if JH T u w hs=true then some false else if Qb4 T u w hs=true then some true else if okW T 20 u hs&&okW T 20 w hs then some (eqW T 20 u w hs)else none
noncomputable def Jd(kvs:List (U×U))(k:U):Option U:=match kvs with
 | []=>none
 | (x,v)::r=>if x=k then some v else Jd r k
noncomputable def Qbx:U->Bool
 | .int _ 0=>true
 | .str _=>true
 | _=>false
noncomputable def Yv{κ:Type}[DecidableEq κ](kvs:List (κ×U))(k:κ):Option U:=(kvs.find? fun p=>decide (p.1=k)).map (·.2)
noncomputable def QfX{κ:Type}[DecidableEq κ](kvs:List (κ×U))(k:κ)(v:U):List (κ×U):=if(kvs.any fun p=>decide (p.1=k))=true then kvs.map (fun p=>if p.1=k then(p.1,v)else p)else kvs++[(k,v)]
noncomputable def tkU(w:U)(hs:Hs):Option (List U):=match w with
 | .ref m=>(match hs[m]? with
  | some (.tup ks)=>if ks.all Qbx=true then some ks else none
  | _=>none)
 | _=>none
noncomputable def QaB(o:O)(w:U)(hs:Hs):Option (Option U):=match o with
 | .dic kvs=>if Qbx w=true then some (Yv kvs w)else none
 | .fzd kvs=>if Qbx w=true then some (Yv kvs w)else none
 | .dct kvs=>(tkU w hs).map fun k=>Yv kvs k
 | .fzt kvs=>(tkU w hs).map fun k=>Yv kvs k
 | _=>none
noncomputable def QkN(n:Nat)(o:O)(k u:U)(hs:Hs):Option Hs:=match o with
 | .dic kvs=>if Qbx k=true/\kvs.length<1000000 then some (hs.set n (.dic (QfX kvs k u)))else none
 | .dct kvs=>if kvs.length<1000000 then(tkU k hs).map fun t=>hs.set n (.dct (QfX kvs t u))else none
 | _=>none
noncomputable def QcF(kvs more:List (U×U)):List (U×U):=more.foldl (fun acc p=>QfX acc p.1 p.2) kvs
noncomputable def inS(x y:List Nat):Bool:=!(Builtin.Str.occurrences ⟨y.toArray⟩ ⟨x.toArray⟩ 0 (Str.length ⟨y.toArray⟩) 1).isEmpty
noncomputable def Qji(T:Tbl)(w u:U):Option Bool:=match w with
 | .con k=>(match T.cons[k]? with
  | some (.tab kvs)=>if Qbx u=true then some (Jd kvs u).isSome else none
  | _=>none)
 | .str y=>(match u with
  | .str x=>some (inS x y)
  | _=>none)
 | _=>none
noncomputable def inD(T:Tbl)(w u:U)(hs:Hs):Option Bool:=match w with
 | .ref n=>(match hs[n]? with
  | some o=>(QaB o u hs).map Option.isSome
  | none=>none)
 | w=>Qji T w u
noncomputable def Zm(T:Tbl)(o:CmpOp)(u w:U)(hs:Hs):Option Bool:=match o with
 | .Eq=>eqA T u w hs
 | .NotEq=>(eqA T u w hs).map (!·)
 | .Lt=>match u,w with | .int i 0,.int j 0=>some (decide (i<j)) | _,_=>none
 | .LtE=>match u,w with | .int i 0,.int j 0=>some (decide (i<=j)) | _,_=>none
 | .Gt=>match u,w with | .int i 0,.int j 0=>some (decide (j<i)) | _,_=>none
 | .GtE=>match u,w with | .int i 0,.int j 0=>some (decide (j<=i)) | _,_=>none
 | .In=>match Z5 T w hs with | some xs=>inU u xs | none=>inD T w u hs
 | .NotIn=>match Z5 T w hs with | some xs=>(inU u xs).map (!·) | none=>(inD T w u hs).map (!·)
 | .Is=>match w with | .non=>some (decide (u=.non)) | _=>none
 | .IsNot=>match w with | .non=>some (!decide (u=.non)) | _=>none
noncomputable def Zg(T:Tbl)(u:U)(hs:Hs):Option Bool:=match u with
 | .non=>some false
 | .bl b=>some b
 | .int i 0=>some (decide (i≠0))
 | .str x=>if x.length<=1000000 then some (!x.isEmpty)else none
 | u=>(Z5 T u hs).map fun xs=>!xs.isEmpty
noncomputable def ixU(n:Nat)(i:Int):Option Nat:=if 0<=i then(if i<n then some i.toNat else none)else if -(n:Int)<=i then some (i+n).toNat else none
noncomputable def atU{α:Type}(xs:List α)(i:Int):Option α:=match ixU xs.length i with
 | some j=>xs[j]?
 | none=>none
noncomputable def Zi(T:Tbl)(u w:U)(hs:Hs):Option U:=match u,w with
 | .str x,.int i 0=>if x.length<=1000000 then(atU x i).map fun c=>.str [c]else none
 | .ref n,w=>match hs[n]?,w with
  | some (.lst xs),.int i 0=>atU xs i
  | some (.tup xs),.int i 0=>atU xs i
  | some o,w=>(QaB o w hs).bind id
  | none,_=>none
 | u,.int i 0=>match Z5 T u hs with
  | some xs=>atU xs i
  | none=>none
 | _,_=>none
noncomputable def Qk4(T:Tbl)(k:Nat)(w:U):Option U:=match T.cons[k]? with
 | some (.tab kvs)=>if Qbx w then Jd kvs w else none
 | _=>none
noncomputable def Yi(n d:Nat):Option Int->Nat
 | none=>d
 | some v=>if v<0 then(v+(n:Int)).toNat else min v.toNat n
noncomputable def YF{α:Type}(xs:List α)(lo hi:Option Int):List α:=(xs.drop (Yi xs.length 0 lo)).take (Yi xs.length xs.length hi-Yi xs.length 0 lo)
noncomputable def slU(T:Tbl)(u:U)(lo hi:Option Int)(hs:Hs):Option (U×Hs):=match u with
 | .scr=>some (.ref hs.length,hs++[.lst (YF T.scr lo hi)])
 | .ref n=>match hs[n]? with
  | some (.lst xs)=>some (.ref hs.length,hs++[.lst (YF xs lo hi)])
  | some (.tup xs)=>if Yi xs.length 0 lo=0/\Yi xs.length xs.length hi=xs.length then none else some (.ref hs.length,hs++[.tup (YF xs lo hi)])
  | _=>none
 | .str x=>if x.length<=1000000 then some (.str (YF x lo hi),hs)else none
 | _=>none
noncomputable def Qmk(n:Nat):List Nat:=(Nat.toDigits 10 n).map Char.toNat
noncomputable def Qml(x:List Nat):Bool:=x.all (fun c=>decide (48<=c)&&decide (c<=57))&&!x.isEmpty&&decide (x.length<=640)
noncomputable def QkP(x:List Nat):Nat:=x.foldl (fun acc c=>acc*10+(c-48)) 0
noncomputable def YG:List U->Option (List Int)
 | []=>some []
 | .int i 0::r=>(YG r).map (i::·)
 | _=>none
noncomputable def Y2:List U->Option (List Bool)
 | []=>some []
 | .bl b::r=>(Y2 r).map (b::·)
 | _=>none
noncomputable def Qlo:List Int->Int->Int
 | [],z=>z
 | a::r,z=>Qlo r (if a>z then a else z)
noncomputable def Ql9:List Int->Option Int
 | []=>none
 | z::r=>some (Qlo r z)
noncomputable def itU(hs:Hs)(u:U):Option (List Int):=match u with
 | .ref m=>(match hs[m]? with
  | some (.tup (k::ks))=>YG (k::ks)
  | _=>none)
 | _=>none
noncomputable def Qlr(hs:Hs):List U->Option (List (List Int))
 | []=>some []
 | u::us=>(itU hs u).bind fun k=>(Qlr hs us).map fun ks=>k::ks
noncomputable def QjN(ks:List (List Int))(xs:List U):List U:=(L2.permK ks xs.length).map fun i=>xs.getD i .non
noncomputable def Qlm(hs:Hs):List U->Option (List (List U×U))
 | []=>some []
 | u::r=>match u with
  | .ref p=>(match hs[p]? with
   | some (.tup [k,v])=>(tkU k hs).bind fun t=>(Qlm hs r).map fun l=>(t,v)::l
   | _=>none)
  | _=>none
noncomputable def QkG(kvs:List (List U×U)):List (List U×U):=kvs.foldl (fun acc p=>QfX acc p.1 p.2) []
noncomputable def Qkt(u:U)(hs:Hs):Option (List U):=match u with
 | .ref p=>(match hs[p]? with
  | some (.lst xs)=>some xs
  | _=>none)
 | _=>none
noncomputable def biL(T:Tbl)(b:Bi)(us:List U)(hs:Hs):Option (U×Hs):=match b,us with
 | .sum,[u]=>(Zb T u hs).bind fun xs=>(YG xs).map fun ns=>(.int ns.sum 0,hs)
 | .any,[u]=>(Zb T u hs).bind fun xs=>(Y2 xs).map fun bs=>(.bl (bs.any id),hs)
 | .max,[u]=>(Zb T u hs).bind fun xs=>(YG xs).bind fun ns=>(Ql9 ns).map fun m=>(.int m 0,hs)
 | .max,[.int i 0,.int j 0]=>some (.int (if j>i then j else i) 0,hs)
 | .sorted,[u]=>(Zb T u hs).bind fun xs=>if xs.length<64 then(if xs.length<2 then some []else Qlr hs xs).map fun ks=>(.ref hs.length,hs++[.lst (QjN ks xs)])else none
 | .dict,[u]=>(Qkt u hs).bind fun xs=>(Qlm hs xs).map fun kvs=>(.ref hs.length,hs++[.dct (QkG kvs)])
 | _,_=>none
noncomputable def Qha(u:U)(hs:Hs):Option (List (List U×U)):=match u with
 | .ref p=>(match hs[p]? with
  | some (.dct kvs)=>some kvs
  | _=>none)
 | _=>none
noncomputable def Qbo:Nat->Nat->List U
 | _,0=>[]
 | i,n+1=>.ref i::Qbo (i+1) n
noncomputable def biU(T:Tbl)(b:Bi)(us:List U)(hs:Hs):Option (U×Hs):=match b,us with
 | .len,[.str x]=>if x.length<=1000000 then some (.int x.length 0,hs)else none
 | .len,[u]=>match Z5 T u hs with
  | some xs=>some (.int xs.length 0,hs)
  | none=>(Qha u hs).map fun kvs=>(.int kvs.length 0,hs)
 | .int,[.int i m]=>some (.int i m,hs)
 | .int,[.bl b]=>some (.int (if b then 1 else 0) 0,hs)
 | .int,[.str x]=>if Qml x then some (.int (QkP x:Nat) 0,hs)else none
 | .str,[.int i 0]=>if 0<=i&&decide (i.natAbs.log2<1920)then some (.str (Qmk i.toNat),hs)else none
 | .tuple,[.ref n]=>match hs[n]? with
  | some (.lst xs)=>some (.ref hs.length,hs++[.tup xs])
  | some (.tup _)=>some (.ref n,hs)
  | _=>none
 | .list,[u]=>match Z5 T u hs with
  | some xs=>some (.ref hs.length,hs++[.lst xs])
  | none=>(Qha u hs).map fun kvs=>(.ref (hs++kvs.map fun p=>O.tup p.1).length,(hs++kvs.map fun p=>O.tup p.1)++[.lst (Qbo hs.length kvs.length)])
 | .len,_=>none
 | .int,_=>none
 | .str,_=>none
 | .tuple,_=>none
 | .list,_=>none
 | b,us=>biL T b us hs
noncomputable def Qap(u:U)(hs:Hs):Option Ty:=match u with
 | .non=>some .non
 | .bl _=>some .bool
 | .int _ _=>some .int
 | .str _=>some .str
 | .ref n=>match hs[n]? with
  | some (.lst _)=>some .list
  | some (.tup _)=>some .tuple
  | some (.dic _)=>some .dict
  | some (.dct _)=>some .dict
  | some (.ins c _)=>some (.cls c)
  | some (.err c)=>some (.cls c)
  | _=>none
 | _=>none
noncomputable def Qg9(k t:Ty):Option Bool:=match k,t with
 | .cls _,_=>none
 | _,.cls _=>none
 | .bool,.int=>some true
 | k,t=>some (decide (k=t))
noncomputable def Qfk(T:Tbl)(t:Ty)(u:U)(hs:Hs):Option Bool:=match Qap u hs with
 | none=>none
 | some k=>match Qg9 k t with
  | some b=>some b
  | none=>T.isi.lookup (k,t)
noncomputable def Qhx:List U->Option (List (List Nat))
 | []=>some []
 | .str x::r=>(Qhx r).map (x::·)
 | _=>none
noncomputable def QkH(x y:List Nat):Int:=match Builtin.Str.occurrences ⟨x.toArray⟩ ⟨y.toArray⟩ 0 x.length 1 with
 | i::_=>(i:Int)
 | []=>-1
noncomputable def bmL(b:Bm)(n:Nat)(xs:List U)(us:List U)(hs:Hs):Option (U×Hs):=match b,us with
 | .append,[u]=>if xs.length<1000000 then some (.non,hs.set n (.lst (xs++[u])))else none
 | .pop,[]=>match xs[xs.length-1]? with
  | some y=>some (y,hs.set n (.lst xs.dropLast))
  | none=>none
 | .clear,[]=>some (.non,hs.set n (.lst []))
 | .reverse,[]=>some (.non,hs.set n (.lst xs.reverse))
 | .extend,[.ref m]=>(match hs[m]? with
  | some (.lst ys)=>if xs.length+ys.length<=1000000 then some (.non,hs.set n (.lst (xs++ys)))else none
  | _=>none)
 | .insert,[.int i 0,u]=>if i=0/\xs.length<1000000 then some (.non,hs.set n (.lst (u::xs)))else none
 | _,_=>none
noncomputable def bmS(T:Tbl)(b:Bm)(x:List Nat)(us:List U)(hs:Hs):Option (U×Hs):=match b,us with
 | .join,[w]=>match Zb T w hs with
  | some ys=>match Qhx ys with
   | some ts=>if ts.length*x.length+(ts.map List.length).sum<=1000000 then some (.str (QiE x ts),hs)else none
   | none=>none
  | none=>none
 | .split,[.str [c]]=>if x.length<=1000000 then some (.ref hs.length,hs++[.lst ((QbY c x).map .str)])else none
 | .find,[.str y]=>some (.int (QkH x y) 0,hs)
 | .index,[.str y]=>(match Builtin.Str.occurrences ⟨x.toArray⟩ ⟨y.toArray⟩ 0 (Str.length ⟨x.toArray⟩) 1 with
  | i::_=>some (.int (i:Int) 0,hs)
  | []=>none)
 | _,_=>none
noncomputable def bmD(b:Bm)(n:Nat)(kvs:List (U×U))(us:List U)(hs:Hs):Option (U×Hs):=match b with
 | .setdef=>(match us with
  | [k,v]=>if Qbx k=true/\kvs.length<1000000 then(match Jd kvs k with
   | some x=>some (x,hs)
   | none=>some (v,hs.set n (.dic (kvs++[(k,v)]))))else none
  | _=>none)
 | .get=>(match us with
  | [k,v]=>if Qbx k=true then some ((Yv kvs k).getD v,hs)else none
  | _=>none)
 | .update=>(match us with
  | [.ref m]=>(match hs[m]? with
   | some (.dic more)=>if n≠m/\kvs.length+more.length<=1000000 then some (.non,hs.set n (.dic (QcF kvs more)))else none
   | _=>none)
  | _=>none)
 | _=>none
noncomputable def bmU(T:Tbl)(b:Bm)(o:U)(us:List U)(hs:Hs):Option (U×Hs):=match o with
 | .ref n=>match hs[n]? with
  | some (.lst xs)=>bmL b n xs us hs
  | some (.dic kvs)=>bmD b n kvs us hs
  | _=>none
 | .str x=>bmS T b x us hs
 | _=>none
noncomputable def bL:Bm->Bool
 | .setdef=>false | .get=>false | .update=>false | .join=>false | .split=>false | .find=>false | .index=>false | _=>true
noncomputable def bS:Bm->Bool
 | .join=>true | .split=>true | .find=>true | .index=>true | _=>false
noncomputable def bD:Bm->Bool
 | .setdef=>true | .get=>true | .update=>true | _=>false
noncomputable def Qg8(b:Bm)(u:U)(hs:Hs):Bool:=match u with
 | .ref n=>match hs[n]? with
  | some (.lst _)=>bL b
  | some (.dic _)=>bD b
  | _=>false
 | .str _=>bS b
 | _=>false
noncomputable def Qlk(f:Nat)(u:U):List (Nat×U)->List (Nat×U)
 | []=>[(f,u)]
 | (g,x)::r=>if g=f then(g,u)::r else(g,x)::Qlk f u r
inductive Wk where
 | seqL (u:U) | seqT (u:U) | rng (lo:Int) (n:Nat) | zipB (b c:Bool) (x y:U) | revL (u:U) (n:Nat) | rngC (lo c:Int) (n:Nat) | enmL (u:U) | strW (x:List Nat)
inductive Im where
 | one (u:U) | two (u w:U)
noncomputable def sqU(T:Tbl)(b:Bool)(u:U)(hs:Hs):Option (List U):=if b then Zb T u hs else Yb T u hs
noncomputable def two(xs ys:List U)(i:Nat):Option Im:=match xs[i]?,ys[i]? with
 | some x,some y=>some (.two x y)
 | _,_=>none
noncomputable def itm(T:Tbl)(k:Wk)(i:Nat)(hs:Hs):Option (Option Im):=match k with
 | .seqL u=>(Zb T u hs).map fun xs=>(xs[i]?).map .one
 | .seqT u=>(Yb T u hs).map fun xs=>(xs[i]?).map .one
 | .rng lo n=>some (if i<n then some (.one (.int (lo+i) 0))else none)
 | .zipB b c x y=>match sqU T b x hs,sqU T c y hs with
  | some xs,some ys=>some (two xs ys i)
  | _,_=>none
 | .revL u n=>match Zb T u hs with
  | some xs=>if i<n then(match xs[n-1-i]? with | some x=>some (some (.one x)) | none=>none)else if i=n then some none else none
  | none=>none
 | .rngC lo c n=>some (if i<n then some (.one (.int (lo+i*c) 0))else none)
 | .enmL u=>(Zb T u hs).map fun xs=>(xs[i]?).map fun x=>.two (.int i 0) x
 | .strW x=>some ((x[i]?).map fun c=>.one (.str [c]))
noncomputable def Qd7(a b c:Int):Nat:=if a<b then((b-a-1) / c+1).toNat else 0
noncomputable def QE(T:Tbl)(k:Wk)(hs:Hs):Nat:=match k with
 | .seqL u=>((Zb T u hs).getD []).length+1
 | .seqT u=>((Yb T u hs).getD []).length+1
 | .rng _ n=>n+1
 | .zipB b _ x _=>((sqU T b x hs).getD []).length+1
 | .revL _ n=>n+1
 | .rngC _ _ n=>n+1
 | .enmL u=>((Zb T u hs).getD []).length+1
 | .strW x=>x.length+1
noncomputable def tgt(t:Tg)(x:Im)(ρ:Rho)(hs:Hs):Option Rho:=match t,x with
 | .name i,.one u=>some (ρ.set i (some u))
 | .pair i j,.two u w=>some ((ρ.set i (some u)).set j (some w))
 | .pair i j,.one (.ref n)=>match hs[n]? with
  | some (.tup [u,w])=>some ((ρ.set i (some u)).set j (some w))
  | _=>none
 | _,_=>none
noncomputable abbrev Cf:=Nat->List U->Hs->Option (U×Hs)
noncomputable abbrev Ev:=E->Rho->Hs->Option (U×Hs)
noncomputable def evs(f:Ev)(ρ:Rho):List E->Hs->Option (List U×Hs)
 | [],hs=>some ([],hs)
 | e::es,hs=>bd (f e ρ hs) fun u h1=>bd (evs f ρ es h1) fun us h2=>some (u::us,h2)
noncomputable def evO(f:Ev)(ρ:Rho):Option E->Hs->Option (Option Int×Hs)
 | none,hs=>some (none,hs)
 | some e,hs=>bd (f e ρ hs) fun u h1=>match u with | .int i 0=>some (some i,h1) | _=>none
noncomputable def wkS(T:Tbl)(u:U)(hs:Hs):Option Wk:=match Zb T u hs with
 | some _=>some (.seqL u)
 | none=>match Yb T u hs with
  | some _=>some (.seqT u)
  | none=>match u with
   | .str x=>some (.strW x)
   | _=>none
noncomputable def wkZ(T:Tbl)(u w:U)(hs:Hs):Option Wk :=
 let b:=(Zb T u hs).isSome
 let c:=(Zb T w hs).isSome
 if(sqU T b u hs).isSome&&(sqU T c w hs).isSome then some (.zipB b c u w)else none
noncomputable def Za(T:Tbl)(f:Ev)(ρ:Rho):Src->Hs->Option (Wk×Hs)
 | .seq e,hs=>bd (f e ρ hs) fun u h1=>(wkS T u h1).map fun k=>(k,h1)
 | .rng a,hs=>bd (f a ρ hs) fun u h1=>match u with | .int i 0=>if Ql (i*4)then some (.rng 0 i.toNat,h1)else none | _=>none
 | .rng2 a b,hs=>bd (f a ρ hs) fun u h1=>bd (f b ρ h1) fun w h2=>match u,w with | .int i 0,.int j 0=>if Ql (i*4)&&Ql (j*4)then some (.rng i (j-i).toNat,h2)else none | _,_=>none
 | .rngA es,hs=>bd (evs f ρ es hs) fun us h1=>match us with
  | [.int i 0,.int j 0,.int c 0]=>if Ql (i*16)&&Ql (j*16)&&decide (0<c)&&decide (c<1073741824)then some (.rngC i c (Qd7 i j c),h1)else if Ql (i*16)&&Ql (j*16)&&decide (c=-1)then some (.rngC i (-1) (i-j).toNat,h1)else none
  | _=>none
 | .zip a b,hs=>bd (f a ρ hs) fun u h1=>bd (f b ρ h1) fun w h2=>(wkZ T u w h2).map fun k=>(k,h2)
 | .revd e,hs=>bd (f e ρ hs) fun u h1=>match Zb T u h1 with | some xs=>some (.revL u xs.length,h1) | none=>none
 | .enm e,hs=>bd (f e ρ hs) fun u h1=>match Zb T u h1 with | some _=>some (.enmL u,h1) | none=>none
 | .rngR a,hs=>bd (f a ρ hs) fun u h1=>match u with | .int i 0=>if Ql (i*16)&&decide (0<=i)then some (.rngC (i-1) (-1) i.toNat,h1)else none | _=>none
noncomputable def Qks(T:Tbl)(cf:Cf)(c:Nat)(us:List U)(hs:Hs):Option (U×Hs):=match T.cls[c]? with
 | none=>none
 | some C=>match C.init with
  | none=>if us=[]then some (.ref hs.length,hs++[.ins c []])else none
  | some f=>match cf f (.ref hs.length::us) (hs++[.ins c []])with
   | some (.non,h2)=>some (.ref hs.length,h2)
   | _=>none
noncomputable def Qkr(T:Tbl)(m:Nat)(o:U)(hs:Hs):Option Nat:=match o with
 | .ref n=>match hs[n]? with
  | some (.ins c _)=>match T.cls[c]? with
   | some C=>C.meths.lookup m
   | none=>none
  | _=>none
 | _=>none
noncomputable def tgN(b:Bool)(n:Nat):Tg:=if b then .pair n (n+1)else .name n
noncomputable def Qbq(b:Bool):Rho:=if b then [none,none]else [none]
noncomputable def Zy(T:Tbl)(f:Ev)(ft:Rho->Hs->Option (Bool×Hs))(w:Wk)(b:Bool)(el:E)(ρ:Rho):Nat->Nat->List U->Hs->Option (List U×Hs)
 | 0,_,_,_=>none
 | k+1,i,acc,hs=>match itm T w i hs with
  | none=>none
  | some none=>some (acc,hs)
  | some (some x)=>match tgt (tgN b ρ.length) x (ρ++Qbq b) hs with
   | none=>none
   | some ρ'=>if acc.length<1000000 then bd (ft ρ' hs) fun c h1=>if c=true then bd (f el ρ' h1) fun u h2=>Zy T f ft w b el ρ k (i+1) (acc++[u]) h2 else Zy T f ft w b el ρ k (i+1) acc h1 else none
noncomputable def YI(ft:E->Rho->Hs->Option (Bool×Hs))(t:Option E)(ρ:Rho)(hs:Hs):Option (Bool×Hs):=match t with
 | none=>some (true,hs)
 | some e=>ft e ρ hs
noncomputable def Qj7(a b c:Int):Option (List U):=if Ql (a*4)&&Ql (b*4)&&(decide (c=1)||decide (c=-1))then
  (let n:=if c=1 then(b-a).toNat else(a-b).toNat
    if n<=1000000 then some ((List.range n).map fun i:Nat=>.int (a+(i:Int)*c) 0)else none)else none
noncomputable def Ql4:List U->Option (List U)
 | [.int b 0]=>Qj7 0 b 1
 | [.int a 0,.int b 0]=>Qj7 a b 1
 | [.int a 0,.int b 0,.int c 0]=>Qj7 a b c
 | _=>none
noncomputable def Qbm:U->Bool
 | .ref _=>false
 | _=>true
mutual
noncomputable def ev(T:Tbl)(cf:Cf):Nat->Ev
 | 0,_,_,_=>none
 | d+1,e,ρ,hs=>match e with
  | .c u=>some (u,hs)
  | .con k=>some (.con k,hs)
  | .var i=>match ρ[i]? with
   | some (some u)=>some (u,hs)
   | _=>none
  | .op o a b=>bd (ev T cf d a ρ hs) fun u h1=>bd (ev T cf d b ρ h1) fun w h2=>opU o u w h2
  | .neg a=>bd (ev T cf d a ρ hs) fun u h1=>match u with | .int i m=>some (.int (-i) m,h1) | _=>none
  | .cmp o a b=>bd (ev T cf d a ρ hs) fun u h1=>bd (ev T cf d b ρ h1) fun w h2=>(Zm T o u w h2).map fun c=>(.bl c,h2)
  | .and a b=>bd (ev T cf d a ρ hs) fun u h1=>match u with | .bl true=>ev T cf d b ρ h1 | .bl false=>some (.bl false,h1) | _=>none
  | .or a b=>bd (ev T cf d a ρ hs) fun u h1=>match u with | .bl true=>some (.bl true,h1) | .bl false=>ev T cf d b ρ h1 | _=>none
  | .not a=>bd (ev T cf d a ρ hs) fun u h1=>(Zg T u h1).map fun c=>(.bl (!c),h1)
  | .ife t a b=>bd (evT T cf d t ρ hs) fun c h1=>if c=true then ev T cf d a ρ h1 else ev T cf d b ρ h1
  | .tup es=>bd (evs (ev T cf d) ρ es hs) fun us h1=>some (.ref h1.length,h1++[.tup us])
  | .lst es=>bd (evs (ev T cf d) ρ es hs) fun us h1=>some (.ref h1.length,h1++[.lst us])
  | .dis kvs b=>bd (ev T cf d b ρ hs) fun w h1=>if Qbx w=true then(Jd kvs w).map fun x=>(x,h1)else none
  | .ix a b=>bd (ev T cf d a ρ hs) fun u h1=>bd (ev T cf d b ρ h1) fun w h2=>(Zi T u w h2).map fun x=>(x,h2)
  | .tab k b=>bd (ev T cf d b ρ hs) fun w h1=>(Qk4 T k w).map fun x=>(x,h1)
  | .sl a lo hi=>bd (ev T cf d a ρ hs) fun u h1=>bd (evO (ev T cf d) ρ lo h1) fun l h2=>bd (evO (ev T cf d) ρ hi h2) fun r h3=>slU T u l r h3
  | .rev a=>bd (ev T cf d a ρ hs) fun u h1=>match Zb T u h1 with | some xs=>some (.ref h1.length,h1++[.lst xs.reverse]) | none=>none
  | .tupR es=>bd (evs (ev T cf d) ρ es hs) fun us h1=>match Ql4 us with | some xs=>some (.ref h1.length,h1++[.tup xs]) | none=>none
  | .fld a f=>bd (ev T cf d a ρ hs) fun u h1=>match u with
   | .ref n=>match h1[n]? with
    | some (.ins _ fs)=>(fs.lookup f).map fun x=>(x,h1)
    | some (.err c)=>if T.efl.contains (c,f)=true then some (.non,h1)else none
    | _=>none
   | _=>none
  | .call f es=>bd (evs (ev T cf d) ρ es hs) fun us h1=>cf f us h1
  | .meth m o es=>bd (ev T cf d o ρ hs) fun u h1=>match Qkr T m u h1 with
   | some f=>bd (evs (ev T cf d) ρ es h1) fun us h2=>cf f (u::us) h2
   | none=>none
  | .make c es=>bd (evs (ev T cf d) ρ es hs) fun us h1=>Qks T cf c us h1
  | .bi b es=>bd (evs (ev T cf d) ρ es hs) fun us h1=>biU T b us h1
  | .isi a t=>bd (ev T cf d a ρ hs) fun u h1=>(Qfk T t u h1).map fun b=>(.bl b,h1)
  | .bm b o es=>bd (ev T cf d o ρ hs) fun u h1=>if Qg8 b u h1=true then bd (evs (ev T cf d) ρ es h1) fun us h2=>bmU T b u us h2 else none
  | .comp s b t el=>bd (Za T (ev T cf d) ρ s hs) fun w h1=>bd (Zy T (ev T cf d) (YI (evT T cf d) t) w b el ρ (QE T w h1) 0 [] h1) fun us h2=>some (.ref h2.length,h2++[.lst us])
  | .dnew=>some (.ref hs.length,hs++[.dic []])
  | .dnewT=>some (.ref hs.length,hs++[.dct []])
  | .zap e=>match ev T cf d e ρ hs with
   | some (u,h1)=>if Qbm u=true/\h1.take hs.length=hs then some (u,hs)else some (u,h1)
   | none=>none
  | .dsp ks es=>bd (evs (ev T cf d) ρ es (hs++[.dic []])) fun us h1=>match h1[hs.length]? with
   | some (.dic [])=>some (.ref hs.length,h1.set hs.length (.dic (QcF [] (ks.zip us))))
   | _=>none
  | .chain o o' a b c=>bd (ev T cf d a ρ hs) fun u h1=>bd (ev T cf d b ρ h1) fun w h2=>match Zm T o u w h2 with
   | some true=>bd (ev T cf d c ρ h2) fun x h3=>(Zm T o' w x h3).map fun k=>(.bl k,h3)
   | some false=>some (.bl false,h2)
   | none=>none
noncomputable def evT(T:Tbl)(cf:Cf):Nat->E->Rho->Hs->Option (Bool×Hs)
 | 0,_,_,_=>none
 | d+1,e,ρ,hs=>match e with
  | .not a=>bd (evT T cf d a ρ hs) fun c h1=>some (!c,h1)
  | .and a b=>bd (evT T cf d a ρ hs) fun c h1=>if c=true then evT T cf d b ρ h1 else some (false,h1)
  | .or a b=>bd (evT T cf d a ρ hs) fun c h1=>if c=true then some (true,h1)else evT T cf d b ρ h1
  | e=>bd (ev T cf d e ρ hs) fun u h1=>(Zg T u h1).map fun b=>(b,h1)
end
noncomputable abbrev Ex:=Rho->Hs->Option (Fl×Rho×Hs)
noncomputable def Qaa(T:Tbl)(w:Wk)(t:Tg)(body:Ex):Nat->Nat->Ex
 | 0,_,_,_=>none
 | k+1,i,ρ,hs=>match itm T w i hs with
  | none=>none
  | some none=>some (.next,ρ,hs)
  | some (some x)=>match tgt t x ρ hs with
   | none=>none
   | some ρ'=>match body ρ' hs with
    | some (.next,ρ2,h2)=>Qaa T w t body k (i+1) ρ2 h2
    | some (.cont,ρ2,h2)=>Qaa T w t body k (i+1) ρ2 h2
    | some (.brk,ρ2,h2)=>some (.next,ρ2,h2)
    | r=>r
noncomputable def Qmf:Option U->Option U
 | some (.ref _)=>none
 | o=>o
noncomputable def frg(ρ:Rho):Rho:=ρ.map Qmf
noncomputable def QkF(i:Nat)(body:Ex):List U->Rho->Option (Fl×Rho)
 | [],ρ=>some (.next,ρ)
 | x::xs,ρ=>match body (ρ.set i (some x)) []with
  | some (.next,ρ2,_)=>QkF i body xs (frg ρ2)
  | some (.cont,ρ2,_)=>QkF i body xs (frg ρ2)
  | some (.brk,ρ2,_)=>some (.next,frg ρ2)
  | some (.ret u,ρ2,_)=>if Qbm u=true then some (.ret u,frg ρ2)else none
  | none=>none
noncomputable def QkD(n:Nat):Option U->Option U
 | some (.ref k)=>if k<n then some (.ref k)else none
 | o=>o
noncomputable def Qjq(n:Nat)(ρ:Rho):Rho:=ρ.map (QkD n)
noncomputable def QkE(hs:Hs)(i:Nat)(body:Ex):List U->Rho->Option (Fl×Rho)
 | [],ρ=>some (.next,ρ)
 | x::xs,ρ=>match body (ρ.set i (some x)) hs with
  | some (fl,ρ2,h2)=>if h2.take hs.length=hs then(match fl with
   | .next=>QkE hs i body xs (Qjq hs.length ρ2)
   | .cont=>QkE hs i body xs (Qjq hs.length ρ2)
   | .brk=>some (.next,Qjq hs.length ρ2)
   | .ret u=>if Qbm u=true then some (.ret u,Qjq hs.length ρ2)else none)else none
  | none=>none
noncomputable def Qfn(i:Nat)(body:Ex):List U->Ex
 | [],ρ,hs=>some (.next,ρ,hs)
 | k::ks,ρ,hs=>match body (ρ.set i (some k)) hs with
  | some (.next,ρ2,h2)=>Qfn i body ks ρ2 h2
  | some (.cont,ρ2,h2)=>Qfn i body ks ρ2 h2
  | some (.brk,ρ2,h2)=>some (.next,ρ2,h2)
  | r=>r
noncomputable def QgN(u:U)(hs h1:Hs):Option (Nat×List (U×U)):=match u with
 | .ref n=>(match hs[n]? with
  | some (.dic _)=>(match h1[n]? with
   | some (.dic kvs)=>some (n,kvs)
   | _=>none)
  | _=>none)
 | _=>none
noncomputable def Qhn(n:Nat)(r:Option (Fl×Rho×Hs)):Option (Fl×Rho×Hs):=match r with
 | some (fl,ρ,hs)=>(match hs[n]? with
  | some (.fzd kvs)=>some (fl,ρ,hs.set n (.dic kvs))
  | _=>none)
 | none=>none
noncomputable def Qfm(i:Nat)(body:Ex):List (List U)->Ex
 | [],ρ,hs=>some (.next,ρ,hs)
 | k::ks,ρ,hs=>match body (ρ.set i (some (.ref hs.length))) (hs++[.tup k])with
  | some (.next,ρ2,h2)=>Qfm i body ks ρ2 h2
  | some (.cont,ρ2,h2)=>Qfm i body ks ρ2 h2
  | some (.brk,ρ2,h2)=>some (.next,ρ2,h2)
  | r=>r
noncomputable def QgO(u:U)(hs h1:Hs):Option (Nat×List (List U×U)):=match u with
 | .ref n=>(match hs[n]? with
  | some (.dct _)=>(match h1[n]? with
   | some (.dct kvs)=>some (n,kvs)
   | _=>none)
  | _=>none)
 | _=>none
noncomputable def thawT(n:Nat)(r:Option (Fl×Rho×Hs)):Option (Fl×Rho×Hs):=match r with
 | some (fl,ρ,hs)=>(match hs[n]? with
  | some (.fzt kvs)=>some (fl,ρ,hs.set n (.dct kvs))
  | _=>none)
 | none=>none
noncomputable def QbN(test:Rho->Hs->Option (Bool×Hs))(body:Ex):Nat->Ex
 | 0,_,_=>none
 | k+1,ρ,hs=>match test ρ hs with
  | none=>none
  | some (false,h1)=>some (.next,ρ,h1)
  | some (true,h1)=>match body ρ h1 with
   | some (.next,ρ2,h2)=>QbN test body k ρ2 h2
   | some (.cont,ρ2,h2)=>QbN test body k ρ2 h2
   | some (.brk,ρ2,h2)=>some (.next,ρ2,h2)
   | r=>r
noncomputable def QlF(o:Operator)(u w:U):Option U:=match o with
 | .Add=>(match u,w with | .int i 0,.int j 0=>some (.int (i+j) 0) | _,_=>none)
 | .Sub=>(match u,w with | .int i 0,.int j 0=>some (.int (i-j) 0) | _,_=>none)
 | _=>none
noncomputable def Qll(x k u:U)(hs:Hs):Option Hs:=match x with
 | .ref n=>(match hs[n]? with
  | some (.lst xs)=>(match k with
   | .int j 0=>(ixU xs.length j).map fun p=>hs.set n (.lst (xs.set p u))
   | _=>none)
  | some o=>QkN n o k u hs
  | none=>none)
 | _=>none
noncomputable def Qk8(j:Option Nat)(u:U)(ρ:Rho):Rho:=match j with
 | some j=>ρ.set j (some u)
 | none=>ρ
noncomputable def QiK(j:Option Nat)(ρ:Rho):Rho:=match j with
 | some j=>ρ.set j none
 | none=>ρ
noncomputable def Qly(j:Option Nat)(c:Nat)(hs:Hs):Hs:=match j with
 | some _=>hs++[.err c]
 | none=>hs
mutual
noncomputable def ex(T:Tbl)(cf:Cf):Nat->S->Ex
 | 0,_,_,_=>none
 | d+1,s,ρ,hs=>match s with
  | .pass=>some (.next,ρ,hs)
  | .bad=>none
  | .aug i o e=>match ρ[i]? with
   | some (some u)=>bd (ev T cf d e ρ hs) fun w h1=>(QlF o u w).map fun r=>(.next,ρ.set i (some r),h1)
   | _=>none
  | .brk=>some (.brk,ρ,hs)
  | .cont=>some (.cont,ρ,hs)
  | .expr e=>bd (ev T cf d e ρ hs) fun _ h1=>some (.next,ρ,h1)
  | .set i e=>bd (ev T cf d e ρ hs) fun u h1=>some (.next,ρ.set i (some u),h1)
  | .fld o f e=>bd (ev T cf d e ρ hs) fun u h1=>bd (ev T cf d o ρ h1) fun x h2=>match x with
   | .ref n=>match h2[n]? with
    | some (.ins c fs)=>if fs.length<500 then some (.next,ρ,h2.set n (.ins c (Qlk f u fs)))else none
    | _=>none
   | _=>none
  | .ret e=>bd (ev T cf d e ρ hs) fun u h1=>some (.ret u,ρ,h1)
  | .retN=>some (.ret .non,ρ,hs)
  | .ite t a b=>match evT T cf d t ρ hs with
   | some (true,h1)=>exs T cf d a ρ h1
   | some (false,h1)=>exs T cf d b ρ h1
   | none=>none
  | .loop t s body=>bd (Za T (ev T cf d) ρ s hs) fun w h1=>Qaa T w t (exs T cf d body) (QE T w h1) 0 ρ h1
  | .loopC i e body=>bd (ev T cf d e ρ hs) fun u h1=>match Zb T u h1 with
   | some xs=>if xs.all Qbm=true then(match QkF i (exs T cf d body) xs (frg ρ)with
    | some (fl,ρ')=>some (fl,ρ',h1)
    | none=>none)else none
   | none=>none
  | .loopD i e body=>bd (ev T cf d e ρ hs) fun u h1=>match u with
   | .ref n=>(match h1[n]? with
    | some (.lst xs)=>if n=hs.length/\h1.take hs.length=hs/\xs.all Qbm=true then(match QkE hs i (exs T cf d body) xs ρ with
     | some (fl,ρ')=>some (fl,ρ',hs)
     | none=>none)else none
    | _=>none)
   | _=>none
  | .loopK i e body=>bd (ev T cf d e ρ hs) fun u h1=>match QgN u hs h1 with
   | some (n,kvs)=>Qhn n (Qfn i (exs T cf d body) (kvs.map (·.1)) ρ (h1.set n (.fzd kvs)))
   | none=>match QgO u hs h1 with
    | some (n,kvs)=>thawT n (Qfm i (exs T cf d body) (kvs.map (·.1)) ρ (h1.set n (.fzt kvs)))
    | none=>none
  | .while t body=>QbN (evT T cf d t) (exs T cf d body) 1000000 ρ hs
  | .put o i e=>bd (ev T cf d e ρ hs) fun u h1=>bd (ev T cf d o ρ h1) fun x h2=>bd (ev T cf d i ρ h2) fun k h3=>(Qll x k u h3).map fun h4=>(.next,ρ,h4)
  | .unp i j e=>bd (ev T cf d e ρ hs) fun u h1=>(tgt (.pair i j) (.one u) ρ h1).map fun ρ'=>(.next,ρ',h1)
  | .par i j a b=>bd (ev T cf d a ρ hs) fun u h1=>bd (ev T cf d b ρ h1) fun w h2=>some (.next,(ρ.set i (some u)).set j (some w),h2)
  | .rse _ _=>none
  | .tryS j f es c body=>bd (evs (ev T cf d) ρ es hs) fun us h1=>match cf f us h1 with
   | some (_,h2)=>some (.next,ρ,h2)
   | none=>match T.xf f us h1 with
    | some (c',h2)=>if T.ers.contains c'=true/\T.esb.contains (c',c)=true/\(match T.fns[f]? with | some F=>decide (us.length=F.np) | none=>false)=true then(match exs T cf d body (Qk8 j (.ref h2.length) ρ) (Qly j c' h2)with
     | some (.next,ρ2,h3)=>some (.next,QiK j ρ2,h3)
     | _=>none)else none
    | none=>none
  | .cal n _ _=>ex T cf d n ρ hs
noncomputable def exs(T:Tbl)(cf:Cf):Nat->List S->Ex
 | 0,_,_,_=>none
 | d+1,ss,ρ,hs=>match ss with
  | []=>some (.next,ρ,hs)
  | s::r=>match ex T cf d s ρ hs with
   | some (.next,ρ1,h1)=>exs T cf d r ρ1 h1
   | x=>x
end
noncomputable def dd:Nat:=100
noncomputable def fin:Option (Fl×Rho×Hs)->Option (U×Hs)
 | some (.ret u,_,h)=>some (u,h)
 | some (.next,_,h)=>some (.non,h)
 | _=>none
noncomputable def QhP(us:List U)(n:Nat):Rho:=us.map some++List.replicate (n-us.length) none
noncomputable def Qd(T:Tbl):Nat->Cf
 | 0,_,_,_=>none
 | n+1,f,us,hs=>match T.fns[f]? with
  | none=>none
  | some F=>if us.length=F.np then fin (exs T (Qd T n) dd F.body (QhP us F.nN) hs)else none
noncomputable def QgJ(T:Tbl)(w:Wk)(t:Tg)(body:Ex)(bx:Rho->Hs->Option (Nat×Hs)):Nat->Nat->Rho->Hs->Option (Nat×Hs)
 | 0,_,_,_=>none
 | k+1,i,ρ,hs=>match itm T w i hs with
  | none=>none
  | some none=>none
  | some (some x)=>match tgt t x ρ hs with
   | none=>none
   | some ρ'=>match body ρ' hs with
    | some (.next,ρ2,h2)=>QgJ T w t body bx k (i+1) ρ2 h2
    | some (.cont,ρ2,h2)=>QgJ T w t body bx k (i+1) ρ2 h2
    | some _=>none
    | none=>bx ρ' hs
mutual
noncomputable def exX(T:Tbl)(cf:Cf):Nat->S->Rho->Hs->Option (Nat×Hs)
 | 0,_,_,_=>none
 | d+1,s,ρ,hs=>match s with
  | .rse c es=>bd (evs (ev T cf d) ρ es hs) fun _ h1=>if T.ers.contains c=true/\es.length<=1000/\(es.isEmpty||!(T.efl.any fun p=>p.1==c))=true then some (c,h1)else none
  | .ite t a b=>match evT T cf d t ρ hs with
   | some (true,h1)=>exsX T cf d a ρ h1
   | some (false,h1)=>exsX T cf d b ρ h1
   | none=>none
  | .loop t s body=>bd (Za T (ev T cf d) ρ s hs) fun w h1=>QgJ T w t (exs T cf d body) (exsX T cf d body) (QE T w h1) 0 ρ h1
  | .cal _ f es=>bd (evs (ev T cf d) ρ es hs) fun us h1=>if(match T.fns[f]? with | some F=>decide (us.length=F.np) | none=>false)=true then T.xf f us h1 else none
  | _=>none
noncomputable def exsX(T:Tbl)(cf:Cf):Nat->List S->Rho->Hs->Option (Nat×Hs)
 | 0,_,_,_=>none
 | d+1,ss,ρ,hs=>match ss with
  | []=>none
  | s::r=>match ex T cf d s ρ hs with
   | some (.next,ρ1,h1)=>exsX T cf d r ρ1 h1
   | some _=>none
   | none=>exX T cf d s ρ hs
end
noncomputable def Zz(T:Tbl):Nat->Nat->List U->Hs->Option (Nat×Hs)
 | 0,_,_,_=>none
 | n+1,f,us,hs=>match T.fns[f]? with
  | none=>none
  | some F=>if us.length=F.np then exsX T (Qd T n) dd F.body (QhP us F.nN) hs else none
end Iv
namespace Iv
open PySem
end Iv
namespace Iv
open PySem
inductive G where
 | fn (i:Nat) | cls (i:Nat) | con (k:Nat) | txt (x:List Nat)
structure Ctx where
 T:Tbl
 N:List Str
 names:List (Str×NameKind)
 gl:List (Str×G)
 bl:List Str
 lc:Bool:=false
noncomputable def idx(x:Str):List Str->Option Nat
 | []=>none
 | y::r=>if y=x then some 0 else(idx x r).map (· + 1)
noncomputable def Qex(C:Ctx)(x:Str):Bool:=match C.names.lookup x with
 | some .local=>true | some .cell=>true | some .free=>true | _=>false
noncomputable def JL(C:Ctx)(x:Str):Bool:=match C.names.lookup x with
 | some .local=>true | some .cell=>true | _=>false
noncomputable def ZQ(C:Ctx)(x:Str):Bool:=match C.names.lookup x with
 | some .globalImplicit=>true | _=>false
noncomputable def ZP:Expr->Bool
 | .Call (.Name _ _) [] [] _=>false
 | _=>true
noncomputable def Yl:Expr->Bool
 | .Slice ..=>false
 | _=>true
noncomputable def Qhk(C:Ctx)(x:Str):Option Ty:=match C.gl.lookup x with
 | some (.cls i)=>some (.cls i)
 | some _=>none
 | none=>if C.bl.contains x=false then none else if x="int" then some .int else if x="str" then some .str else if x="bool" then some .bool else if x="list" then some .list else if x="tuple" then some .tuple else if x="dict" then some .dict else if x="ValueError" then some .vale else none
noncomputable def Qi6(x:Str):Option Bi:=none
noncomputable def Qjv(C:Ctx)(x:Str):Option Bi:=match C.gl.lookup x with
 | some _=>none
 | none=>if C.bl.contains x=false then none else if x="len" then some .len else if x="tuple" then some .tuple else if x="list" then some .list else if x="sum" then some .sum else if x="any" then some .any else Qi6 x
noncomputable def Qi5(x:Str):Option Bm:=none
noncomputable def Qjt(x:Str):Option Bm:=if x="append" then some .append else Qi5 x
noncomputable def Qe8:E->Bool
 | .and _ _=>false
 | .or _ _=>false
 | .not _=>false
 | _=>true
noncomputable def okT:Expr->E->Bool
 | .BoolOp ..,_=>true
 | .UnaryOp .Not ..,_=>true
 | .Compare ..,_=>true
 | _,ir=>Qe8 ir
noncomputable def Qb8(C:Ctx)(f:Str)(args:List Expr):Option (List Expr):=none
noncomputable def Jc(C:Ctx)(f:Str)(args:List Expr):Option Expr:=if f="list" then(match args with
 | [.Call (.Name r _) [a] [] _]=>if r="reversed"&&ZQ C r&&(C.gl.lookup r).isNone&&C.bl.contains r then some a else none
 | _=>none)else none
noncomputable def Qdg:Expr->Option U
 | .Constant (.int i) _ _=>some (.int i 0)
 | .Constant (.str x) _ _=>some (.str x.cps.toList)
 | _=>none
noncomputable def Qfg{α β:Type}(f:α->Option β):List α->Option (List β)
 | []=>some []
 | a::r=>(f a).bind fun b=>(Qfg f r).bind fun bs=>some (b::bs)
noncomputable def Jg:List (Option Expr)->Option (List U)
 | []=>some []
 | some k::ks=>(Qdg k).bind fun k'=>(Jg ks).bind fun r=>some (k'::r)
 | none::_=>none
noncomputable def QkO:List (Option Expr)->List Expr->Option (List (U×U))
 | [],[]=>some []
 | some k::ks,v::vs=>(Qdg k).bind fun k'=>(Qdg v).bind fun v'=>(QkO ks vs).bind fun r=>if r.any (fun p=>decide (p.1=k'))then none else some ((k',v')::r)
 | _,_=>none
noncomputable def Ctx.inner(C:Ctx)(xs:List Str)(scope:Scope):Ctx:={ C with N:=L2.hideN xs C.N++xs,names:=L2.relN C.names scope.names,lc:=false }
noncomputable def hdC(C:Ctx):Bool:=decide (C.bl=[("isinstance":Str)])
noncomputable def YY(C:Ctx)(xs:List Str)(scope:Scope):Bool:=(scope.kind==.function)&&xs.all (fun x=>(scope.names.lookup x==some .local)&&(scope.names.lookup (L2.mang x)==none))&&decide (L2.hideN xs C.N++xs).Nodup&&scope.names.all (fun y=>match y.2 with
  | .local=>(xs.contains y.1||decide (y.1=".0"))&&(scope.names.lookup y.1==some .local)
  | .free=>(C.names.lookup y.1==some .cell)||(C.names.lookup y.1==some .free)
  | .cell=>false
  | _=>true)&&!(C.N.contains ".0")
noncomputable def Qjp:Src->Bool
 | .zip _ _=>true
 | .enm _=>true
 | _=>false
noncomputable def Qak:Src->Tg->Bool
 | .zip _ _,.name _=>false
 | .enm _,.name _=>false
 | .revd _,.pair _ _=>false
 | _,_=>true
noncomputable def QjE:Expr->Option (Bool×List Str)
 | .Name x _=>some (false,[x])
 | .Tuple es _ _=>(match es with
  | [a,b]=>(match a,b with
   | .Name x _,.Name y _=>some (true,[x,y])
   | _,_=>none)
  | _=>none)
 | _=>none
noncomputable def Qls:List Expr->Option (Option Expr)
 | []=>some none
 | [t]=>some (some t)
 | _=>none
structure Gn where
 b:Bool
 xs:List Str
 iter:Expr
 tl:Option Expr
noncomputable def QeC:List Comprehension->Option Gn
 | [g]=>if g.is_async=0 then(QjE g.target).bind fun t=>(Qls g.ifs).map fun tl=>⟨t.1,t.2,g.iter,tl⟩else none
 | _=>none
noncomputable def Qjw(tg:Expr)(b:Bool)(xs:List Str):Prop:=(b=false/\∃x p,tg=.Name x p/\xs=[x])\/(b=true/\∃x p y q k pt,tg=.Tuple [.Name x p,.Name y q] k pt/\xs=[x,y])
theorem QfD{tg:Expr}{b:Bool}{xs:List Str}(h:QjE tg=some (b,xs)):Qjw tg b xs:=by
 unfold QjE at h
 split at h
 ·cases h;exact .inl ⟨rfl,_,_,rfl,rfl⟩
 ·split at h
  ·split at h
   ·cases h;exact .inr ⟨rfl,_,_,_,_,_,_,rfl,rfl⟩
   ·cases h
  ·cases h
 ·cases h
theorem QbB{gens:List Comprehension}{g:Gn}(h:QeC gens=some g):∃tg,gens=[⟨tg,g.iter,g.tl.toList,0⟩]/\Qjw tg g.b g.xs:=by
 unfold QeC at h
 split at h
 ·rename_i c
  split at h
  ·rename_i e
   simp only [Option.bind_eq_some_iff,Option.map_eq_some_iff]at h
   obtain⟨⟨b,xs⟩,h1,tl,h2,rfl⟩:=h
   obtain⟨tg,iter,ifs,ia⟩:=c
   simp only at e h1 h2
   subst e
   refine⟨tg,?_,QfD h1⟩
   have:ifs=tl.toList:=by
    unfold Qls at h2
    split at h2<;>cases h2<;>rfl
   rw [this]
  ·cases h
 ·cases h
inductive Sl where
 | cut (lo hi:Option Expr) | rev | bad
noncomputable def Qkw:Expr->Bool
 | .UnaryOp .USub (.Constant (.int 1) _ _) _=>true
 | _=>false
noncomputable def Qe3:Expr->Option Sl
 | .Slice lo hi st _=>(match st with
  | none=>some (.cut lo hi)
  | some e=>if Qkw e&&lo.isNone&&hi.isNone then some .rev else some .bad)
 | _=>none
inductive He where
 | tab (ks:List (Option Expr)) (vs:List Expr) | nm (x:Str) | any
noncomputable def QiJ:Expr->He
 | .Name x _=>.nm x
 | _=>.any
noncomputable def QfF(C:Ctx)(x:Str):Option Nat:=if ZQ C x&&decide (x≠"__debug__")then(match C.gl.lookup x with
 | some (.con k)=>(match C.T.cons[k]? with | some (.tab _)=>some k | _=>none)
 | _=>none)else none
noncomputable def Qjm(C:Ctx)(i:Nat)(es:List E):Option E:=match C.T.dfl.lookup i with
 | none=>some (.call i es)
 | some D=>if es.length<=D.np/\D.np<=es.length+D.ds.length then some (.call i (es++(D.ds.drop (D.ds.length-(D.np-es.length))).map .c))else none
mutual
noncomputable def Qf:Nat->Ctx->Expr->Option E
 | 0,_,_=>none
 | m+1,C,e=>match e with
  | .Constant (.int i) _ _=>some (.c (.int i 0))
  | .Constant (.bool b) _ _=>some (.c (.bl b))
  | .Constant .none _ _=>some (.c .non)
  | .Constant (.str x) _ _=>some (.c (.str x.cps.toList))
  | .Name x _ => if x = "__debug__" \/ x = "__classdict__" then none else if Qex C x then (idx x C.N).map .var else if ZQ C x then (match C.gl.lookup x with | some (.con k) => some (.con k) | some (.txt t) => some (.c (.str t)) | _ => none) else none
  | .BinOp a o b _=>(Qf m C a).bind fun a'=>(Qf m C b).bind fun b'=>some (.op o a' b')
  | .UnaryOp .USub a _=>(Qf m C a).bind fun a'=>some (.neg a')
  | .UnaryOp .Not a _=>(compT m C a).bind fun a'=>some (.not a')
  | .BoolOp .And (a::r) p=>compAnd m C a r p
  | .BoolOp .Or (a::r) p=>compOr m C a r p
  | .Compare a [o] [b] _=>(Qf m C a).bind fun a'=>(Qf m C b).bind fun b'=>some (.cmp o a' b')
  | .IfExp t a b _=>(compT m C t).bind fun t'=>(Qf m C a).bind fun a'=>(Qf m C b).bind fun b'=>some (.ife t' a' b')
  | .Tuple es _ _=>if es.length<=1000000 then(compA m C es).bind fun es'=>some (.tup es')else none
  | .List es _=>if es.length<=1000000 then(compA m C es).bind fun es'=>some (.lst es')else none
  | .Subscript a b _=>match Qe3 b with
   | some (.cut lo hi)=>(Qf m C a).bind fun a'=>(compO m C lo).bind fun l=>(compO m C hi).bind fun h=>some (.sl a' l h)
   | some .rev=>(Qf m C a).bind fun a'=>some (.rev a')
   | some .bad=>none
   | none=>(Qf m C b).bind fun b'=>match QiJ a with
    | .tab ks vs=>if decide (ks.length<=15)&&!ks.isEmpty then(QkO ks vs).bind fun kvs=>some (.dis kvs b')else none
    | .nm x=>(match QfF C x with | some k=>some (.tab k b') | none=>(Qf m C a).bind fun a'=>some (.ix a' b'))
    | .any=>(Qf m C a).bind fun a'=>some (.ix a' b')
  | .Attribute a f _=>if ZP a then(Qf m C a).bind fun a'=>(idx f C.T.fns').bind fun k=>some (.fld a' k)else none
  | .Call (.Name f _) args [] _ => if f = "__debug__" \/ f = "__name__" \/ ZQ C f = false then none else match C.gl.lookup f with
   | some (.fn i)=>if hdC C=true then none else(compA m C args).bind fun es=>Qjm C i es
   | some (.cls _)=>none
   | some (.con _)=>none
   | some (.txt _)=>none
   | none=>if C.bl.contains f=false then none else if f="isinstance" then(match args with
     | [a, .Name t _] => if ZQ C t /\ t ≠ "__debug__" /\ t ≠ "__name__" then (Qf m C a).bind fun a' => (Qhk C t).bind fun ty => some (.isi a' ty) else none
     | _=>none)
    else if hdC C=true then none else match Qb8 C f args with
     | some ra=>(compA m C ra).bind fun es=>some (.tupR es)
     | none=>match Jc C f args with
      | some a=>(Qf m C a).bind fun a'=>some (.rev a')
      | none=>(Qjv C f).bind fun b=>(compA m C args).bind fun es=>some (.bi b es)
  | .Call (.Attribute o x p) args [] q=>if ZP o&&(p.endLine==q.line)&&decide (args.length<29)then match idx x C.T.mns with
   | some _=>none
   | none=>(Qjt x).bind fun b=>(Qf m C o).bind fun o'=>(compA m C args).bind fun es=>some (.bm b o' es)else none
  | .ListComp elt gens scope _=>(match QeC gens with
   | some g=>if YY C g.xs scope&&!hdC C then(compSrc m C g.iter).bind fun src=>if Qak src (tgN g.b 0)then(compTO m (C.inner g.xs scope) g.tl).bind fun t=>(Qf m (C.inner g.xs scope) elt).bind fun el=>some (.comp src g.b t el)else none else none
   | none=>none)
  | .Dict [] [] _=>some .dnew
  | .Dict ks vs _=>(Jg ks).bind fun kk=>if kk.length=vs.length/\kk.length<=15/\kk≠[]then(Qfg (Qf m C) vs).bind fun es=>some (.dsp kk es)else none
  | _=>none
noncomputable def compT:Nat->Ctx->Expr->Option E
 | 0,_,_=>none
 | m+1,C,e=>match e with
  | .IfExp ..=>none
  | .NamedExpr ..=>none
  | e=>(Qf m C e).bind fun ir=>if okT e ir then some ir else none
noncomputable def compTO:Nat->Ctx->Option Expr->Option (Option E)
 | 0,_,_=>none
 | m+1,C,none=>some none
 | m+1,C,some e=>(compT m C e).bind fun e'=>some (some e')
noncomputable def compAnd:Nat->Ctx->Expr->List Expr->Pos->Option E
 | 0,_,_,_,_=>none
 | m+1,C,a,r,p=>match r with
  | []=>compT m C a
  | b::r=>(compT m C a).bind fun a'=>(compAnd m C b r p).bind fun b'=>some (.and a' b')
noncomputable def compOr:Nat->Ctx->Expr->List Expr->Pos->Option E
 | 0,_,_,_,_=>none
 | m+1,C,a,r,p=>match r with
  | []=>compT m C a
  | b::r=>(compT m C a).bind fun a'=>(compOr m C b r p).bind fun b'=>some (.or a' b')
noncomputable def compA:Nat->Ctx->List Expr->Option (List E)
 | 0,_,_=>none
 | m+1,C,es=>match es with
  | []=>some []
  | e::r=>(Qf m C e).bind fun e'=>(compA m C r).bind fun r'=>some (e'::r')
noncomputable def compO:Nat->Ctx->Option Expr->Option (Option E)
 | 0,_,_=>none
 | m+1,C,none=>some none
 | m+1,C,some e=>(Qf m C e).bind fun e'=>some (some e')
noncomputable def compSrc:Nat->Ctx->Expr->Option Src
 | 0,_,_=>none
 | m+1,C,e=>match e with
  | .Call (.Name f p) args [] q=>if ZQ C f then(match C.gl.lookup f with
   | some _=>(Qf m C (.Call (.Name f p) args [] q)).map .seq
   | none=>if C.bl.contains f=false then none else if f="range" then(match args with
     | [a]=>(Qf m C a).map .rng
     | [a,b]=>(Qf m C a).bind fun a'=>(Qf m C b).map fun b'=>.rng2 a' b'
     | [a,b,c]=>(compA m C [a,b,c]).map .rngA
     | _=>none)
    else if f="zip" then(match args with
     | [a,b]=>(Qf m C a).bind fun a'=>(Qf m C b).map fun b'=>.zip a' b'
     | _=>none)
    else(Qf m C (.Call (.Name f p) args [] q)).map .seq)else none
  | e=>(Qf m C e).map .seq
end
theorem cE4 {m : Nat} {C : Ctx} {x w1} : Qf (m + 1) C (.Name x w1) = (if x = "__debug__" \/ x = "__classdict__" then none else if Qex C x then (idx x C.N).map .var else if ZQ C x then (match C.gl.lookup x with | some (.con k) => some (.con k) | some (.txt t) => some (.c (.str t)) | _ => none) else none) := rfl
theorem cE5{m:Nat}{C:Ctx}{a o b w1}:Qf (m+1) C (.BinOp a o b w1)=((Qf m C a).bind fun a'=>(Qf m C b).bind fun b'=>some (.op o a' b')):=rfl
theorem cE6{m:Nat}{C:Ctx}{a w1}:Qf (m+1) C (.UnaryOp .USub a w1)=((Qf m C a).bind fun a'=>some (.neg a')):=rfl
theorem cE7{m:Nat}{C:Ctx}{a w1}:Qf (m+1) C (.UnaryOp .Not a w1)=((compT m C a).bind fun a'=>some (.not a')):=rfl
theorem QmC{m:Nat}{C:Ctx}{a o b w1}:Qf (m+1) C (.Compare a [o] [b] w1)=((Qf m C a).bind fun a'=>(Qf m C b).bind fun b'=>some (.cmp o a' b')):=rfl
theorem QmB{m:Nat}{C:Ctx}{t a b w1}:Qf (m+1) C (.IfExp t a b w1)=((compT m C t).bind fun t'=>(Qf m C a).bind fun a'=>(Qf m C b).bind fun b'=>some (.ife t' a' b')):=rfl
theorem QmA{m:Nat}{C:Ctx}{es w1 w2}:Qf (m+1) C (.Tuple es w1 w2)=(if es.length<=1000000 then(compA m C es).bind fun es'=>some (.tup es')else none):=rfl
theorem Qmz{m:Nat}{C:Ctx}{es w1}:Qf (m+1) C (.List es w1)=(if es.length<=1000000 then(compA m C es).bind fun es'=>some (.lst es')else none):=rfl
theorem Qmy{m:Nat}{C:Ctx}{a b w1}:Qf (m+1) C (.Subscript a b w1)=(match Qe3 b with
   | some (.cut lo hi)=>(Qf m C a).bind fun a'=>(compO m C lo).bind fun l=>(compO m C hi).bind fun h=>some (.sl a' l h)
   | some .rev=>(Qf m C a).bind fun a'=>some (.rev a')
   | some .bad=>none
   | none=>(Qf m C b).bind fun b'=>match QiJ a with
    | .tab ks vs=>if decide (ks.length<=15)&&!ks.isEmpty then(QkO ks vs).bind fun kvs=>some (.dis kvs b')else none
    | .nm x=>(match QfF C x with | some k=>some (.tab k b') | none=>(Qf m C a).bind fun a'=>some (.ix a' b'))
    | .any=>(Qf m C a).bind fun a'=>some (.ix a' b')):=rfl
theorem Qmx{m:Nat}{C:Ctx}{a f w1}:Qf (m+1) C (.Attribute a f w1)=(if ZP a then(Qf m C a).bind fun a'=>(idx f C.T.fns').bind fun k=>some (.fld a' k)else none):=rfl
theorem Qmw {m : Nat} {C : Ctx} {f w1 args w2} : Qf (m + 1) C (.Call (.Name f w1) args [] w2) = (if f = "__debug__" \/ f = "__name__" \/ ZQ C f = false then none else match C.gl.lookup f with
   | some (.fn i)=>if hdC C=true then none else(compA m C args).bind fun es=>Qjm C i es
   | some (.cls _)=>none
   | some (.con _)=>none
   | some (.txt _)=>none
   | none=>if C.bl.contains f=false then none else if f="isinstance" then(match args with
     | [a, .Name t _] => if ZQ C t /\ t ≠ "__debug__" /\ t ≠ "__name__" then (Qf m C a).bind fun a' => (Qhk C t).bind fun ty => some (.isi a' ty) else none
     | _=>none)
    else if hdC C=true then none else match Qb8 C f args with
     | some ra=>(compA m C ra).bind fun es=>some (.tupR es)
     | none=>match Jc C f args with
      | some a=>(Qf m C a).bind fun a'=>some (.rev a')
      | none=>(Qjv C f).bind fun b=>(compA m C args).bind fun es=>some (.bi b es)):=rfl
theorem Qmv{m:Nat}{C:Ctx}{o x p args q}:Qf (m+1) C (.Call (.Attribute o x p) args [] q)=(if ZP o&&(p.endLine==q.line)&&decide (args.length<29)then match idx x C.T.mns with
   | some _=>none
   | none=>(Qjt x).bind fun b=>(Qf m C o).bind fun o'=>(compA m C args).bind fun es=>some (.bm b o' es)else none):=rfl
theorem QlE{m:Nat}{C:Ctx}{elt gens scope w1}:Qf (m+1) C (.ListComp elt gens scope w1)=((match QeC gens with
   | some g=>if YY C g.xs scope&&!hdC C then(compSrc m C g.iter).bind fun src=>if Qak src (tgN g.b 0)then(compTO m (C.inner g.xs scope) g.tl).bind fun t=>(Qf m (C.inner g.xs scope) elt).bind fun el=>some (.comp src g.b t el)else none else none
   | none=>none)):=rfl
theorem Qmu{m:Nat}{C:Ctx}{w1}:Qf (m+1) C (.Dict [] [] w1)=(some .dnew):=rfl
theorem Qmt{m:Nat}{C:Ctx}{k0 ks vs w1}:Qf (m+1) C (.Dict (k0::ks) vs w1)=((Jg (k0::ks)).bind fun kk=>if kk.length=vs.length/\kk.length<=15/\kk≠[]then(Qfg (Qf m C) vs).bind fun es=>some (.dsp kk es)else none):=rfl
noncomputable def Yd(C:Ctx):Expr->Option Tg
 | .Name x _=>if JL C x then(idx x C.N).map .name else none
 | .Tuple [.Name x _,.Name y _] _ _=>if JL C x&&JL C y&&decide (x≠y)then(idx x C.N).bind fun i=>(idx y C.N).map fun j=>.pair i j else none
 | _=>none
noncomputable def QkI:Expr->Option Bool
 | .Constant c _ _=>(match c with | .str _=>some true | _=>none)
 | .ListComp ..=>some false
 | _=>none
inductive As where
 | nm (x:Str) | at (o:Expr) (f:Str) | sub (o i:Expr) | two (x:Str) (p:Pos) (y:Str) (q:Pos)
noncomputable def QfC:Expr->Expr->Option As
 | .Name x p,.Name y q=>some (.two x p y q)
 | _,_=>none
noncomputable def as1:Expr->Option As
 | .Name x _=>some (.nm x)
 | .Attribute o f _=>some (.at o f)
 | .Subscript o i _=>some (.sub o i)
 | .Tuple es _ _=>(match es with | [a,b]=>QfC a b | _=>none)
 | _=>none
noncomputable def Qg3:List Expr->Option As
 | [t]=>as1 t
 | _=>none
noncomputable def Qmn(C:Ctx)(it:Expr):Bool:=match it with
 | .Name y _=>C.T.dts.contains y
 | _=>false
noncomputable def Qlq(C:Ctx)(tg it:Expr)(t:Tg):Option Nat:=match tg with
 | .Name x _=>(match t with | .name i=>if C.T.dts.contains x||Qmn C it then some i else none | _=>none)
 | _=>none
noncomputable def Yc(C:Ctx)(x:Str):Bool:=match C.names.lookup x with
 | some .local=>true | _=>false
noncomputable def Qfb:Expr->Option (Expr×Expr)
 | .Tuple es _ _=>(match es with | [a,b]=>some (a,b) | _=>none)
 | _=>none
noncomputable def Qfe:Expr->Bool
 | .Tuple ..=>false
 | _=>true
noncomputable def QcR:Expr->Bool
 | .Dict [] [] _=>true
 | _=>false
noncomputable def Qir:Expr->Bool
 | .ListComp ..=>false
 | _=>true
noncomputable def Qhd(C:Ctx)(x:Str)(e0:Expr)(e:E):E:=if(C.T.zps.contains x&&Qir e0)=true then .zap e else e
noncomputable def Qd6(C:Ctx)(e f:Option Expr):Option (Nat×List Expr):=match e,f with
 | some (.Call (.Name x _) args [] _),none=>if ZQ C x&&decide (x≠"__debug__")then(match C.gl.lookup x with
  | some (.cls c)=>if C.T.ers.contains c then some (c,args)else none
  | _=>none)else none
 | _,_=>none
structure Tr where
 j:Option Nat
 f:Nat
 args:List Expr
 c:Nat
 body:List Stmt
noncomputable def QdS(C:Ctx)(n:Option Str):Option (Option Nat):=match n with
 | none=>some none
 | some n=>if Yc C n&&decide (n≠"__debug__")then(idx n C.N).map some else none
noncomputable def QdU(C:Ctx)(x:Str):Option Nat:=if ZQ C x&&decide (x≠"__debug__")then(match C.gl.lookup x with | some (.cls c)=>some c | _=>none)else none
noncomputable def QbS(C:Ctx)(x:Str):Option Nat:=if ZQ C x&&decide (x≠"__debug__")then(match C.gl.lookup x with | some (.fn i)=>some i | _=>none)else none
noncomputable def QdQ(C:Ctx)(b:List Stmt)(hs:List ExceptHandler)(o fn:List Stmt):Option Tr:=match b,hs,o,fn with
 | [.Expr (.Call (.Name f _) (a::args) [] _) _],[.ExceptHandler (some (.Name x _)) n (b0::body) _],[],[]=>
   (QdS C n).bind fun j=>(QdU C x).bind fun c=>(QbS C f).bind fun k=>some ⟨j,k,a::args,c,b0::body⟩
 | _,_,_,_=>none
noncomputable def hdX(C:Ctx):Ctx:={ C with bl:=[("isinstance":Str)] }
noncomputable def Qg2(C:Ctx):Stmt->Option (Nat×Expr)
 | .Assign ts e _=>(match Qg3 ts with
  | some (.nm y)=>if Yc C y then(idx y C.N).map fun i=>(i,e)else none
  | _=>none)
 | _=>none
noncomputable def Qdl(m:Nat)(C:Ctx):List Stmt->Option (List S)
 | []=>some []
 | s::r=>(Qg2 C s).bind fun p=>(Qf m (hdX C) p.2).bind fun e'=>(Qdl m C r).bind fun r'=>some (.set p.1 e'::r')
noncomputable def QeO(C:Ctx)(f:Str)(as:List Expr):Option (Nat×List Expr):=(QbS C f).bind fun k=>if C.T.pss.contains k then some (k,as)else none
noncomputable def Qms(C:Ctx)(f:Str)(as:List Expr)(ks:List Keyword):Option (Nat×List Expr):=match as with
 | []=>none
 | a::r=>(match ks with | []=>QeO C f (a::r) | _::_=>none)
noncomputable def Qmr(C:Ctx)(g:Expr)(as:List Expr)(ks:List Keyword):Option (Nat×List Expr):=match g with
 | .Name f _=>Qms C f as ks
 | _=>none
noncomputable def Qhb(C:Ctx)(e:Expr):Option (Nat×List Expr):=match e with
 | .Call g as ks _=>Qmr C g as ks
 | _=>none
noncomputable def QkV(C:Ctx)(ts:List Expr)(e:Expr):Option (Nat×List Expr):=match Qg3 ts with
 | some (.nm x)=>if JL C x&&(idx x C.N).isSome then Qhb C e else none
 | _=>none
noncomputable def QiY(C:Ctx)(s:Stmt):Option (Nat×List Expr):=match s with
 | .Assign ts e _=>QkV C ts e
 | .Return v _=>v.bind (Qhb C)
 | .Expr e _=>Qhb C e
 | _=>none
noncomputable def Qjs(m:Nat)(C:Ctx)(s:Stmt)(s0:S):Option S:=match QiY C s with
 | some t=>(compA m C t.2).map fun es=>.cal s0 t.1 es
 | none=>some s0
mutual
noncomputable def Q9:Nat->Ctx->Stmt->Option S
 | 0,_,_=>none
 | m+1,C,s=>match s with
  | .Pass _=>some .pass
  | .Break _=>some .brk
  | .Continue _=>some .cont
  | .Expr e _=>(match QkI e with
   | some true=>some .pass
   | some false=>none
   | none=>(Qf m C e).map .expr)
  | .Return v _=>(match v with
   | none=>some .retN
   | some e=>(Qf m C e).map .ret)
  | .Assign ts e _=>(match Qg3 ts with
   | some (.nm x)=>if JL C x then(idx x C.N).bind fun i=>if QcR e&&C.T.dts.contains x then some (.set i .dnewT)else(Qf m C e).bind fun e'=>some (.set i (Qhd C x e e'))else none
   | some (.at _ _)=>none
   | some (.sub _ _)=>none
   | some (.two x p y q)=>if Yc C x&&Yc C y&&decide (x≠y)then(idx x C.N).bind fun i=>(idx y C.N).bind fun j=>(match Qfb e with
     | some _=>none
     | none=>if Qfe e then(Qf m C e).map (.unp i j)else none)else none
   | none=>none)
  | .Raise e f _=>(match Qd6 C e f with
   | some (c,args)=>(compA m C args).bind fun es=>some (.rse c es)
   | none=>some .bad)
  | .Try b hs o fn _=>if C.bl.contains ("isinstance":Str)then(QdQ C b hs o fn).bind fun t=>(compA m C t.args).bind fun es=>(Qdl m C t.body).bind fun bd=>some (.tryS t.j t.f es t.c bd)else none
  | .If t a b _=>(compT m C t).bind fun t'=>(compSs m C a).bind fun a'=>(compSs m C b).bind fun b'=>some (.ite t' a' b')
  | .For tg it a [] _=>(Yd C tg).bind fun tg'=>(compSrc m C it).bind fun it'=>match Qlq C tg it tg' with
   | some i=>(Qf m C it).bind fun e=>(compSs m C a).bind fun a'=>some (.loopK i e a')
   | none=>if Qak it' tg' then(compSs m C a).bind fun a'=>some (.loop tg' it' a')else none
  | _=>none
noncomputable def compSs:Nat->Ctx->List Stmt->Option (List S)
 | 0,_,_=>none
 | m+1,C,ss=>match ss with
  | []=>some []
  | s::r=>(Q9 m C s).bind fun s0=>(Qjs m C s s0).bind fun s'=>(compSs m C r).bind fun r'=>some (s'::r')
end
end Iv
namespace L2
open PySem PySem.Spec PyProof.Rows
section
variable {X:Cx}
noncomputable def QhV(K:PySem.W.Frag):R2:=fun x y H Q=>∃a b ys,x=.ref a/\y=.ref b/\SqT K H a []/\SqT K H b ys/\Q (.ref b) H
theorem Qel:OpR X (binaryOp .Add) (QhV X.K):=by
 intro pins s σ H x y v u Q I rx ry h
 obtain⟨a,b,ys,rfl,rfl,ha,hb,q⟩:=h
 cases rx
 cases ry
 obtain⟨i1,r1,ht,_⟩:=I.tuple ha
 obtain⟨i2,r2,hb,_⟩:=I.tuple hb
 cases r1
 obtain⟨⟨cls,dd,data,sl⟩,ho,hc,n,hd⟩:=id ht
 obtain⟨⟨cls2,dd2,data2,sl2⟩,ho2,hc2,n2,hd2⟩:=id hb
 simp only at hc hd hc2 hd2
 subst hc hd hc2 hd2
 exact concat_meets ⟨_,ho,rfl⟩ ⟨_,ho2,rfl⟩ noFill_tuple_add seq_tuple_add PySem.F.slot_tuple_add PySem.F.entry_tuple_add (PySem.F.args_tuple_add_2 _ _)
  (tuple_addW0 a b _ _ n n2 dd dd2 sl sl2 (by simp)) ⟨ho,ho2,⟨.ref b,H,I.tok _,rfl,q⟩⟩
noncomputable def QkU:V->Option Value
 | .ty n=>some (.type n)
 | .ref a=>some (.ref a)
 | _=>none
noncomputable def TyE(K:PySem.W.Frag)(H:Hp)(x:V)(t:Value):Prop:=TyOf K H x t\/∃a C dd,x=.ref a/\t=.ref C/\H a=some (Qc7 a C dd)/\ErrCls K C
theorem QeM : CallR X (.builtin "isinstance") (fun xs H Q => ∃ x c cv t b, xs = [x, c] /\ QkU c = some cv /\ TyE X.K H x t /\ PySem.W.kitOne X.K t cv = some b /\ Q (.bl b) H) := by
 intro pins s σ H xs us Q I r h
 obtain⟨x,c,cv,t,b,rfl,hc,ty,e,q⟩:=h
 rcases ty with ty | ⟨a,C,dd,rfl,rfl,ha,Y⟩
 case inr=>exact Qdp pins s σ H _ us Q I r ⟨a,c,cv,C,dd,b,rfl,by unfold QkU at hc;exact hc,ha,Y,e,q⟩
 obtain⟨u,w',rfl,rx,rc⟩:=QdM r
 have ec:w'=cv:=by
  cases c with
  | ty n=>cases(show w'=Value.type n from rc);exact Option.some.inj hc
  | ref a=>cases(show w'=Value.ref a from rc);exact Option.some.inj hc
  | _=>cases hc
 subst ec
 exact QcP I rx ty e fun tk=>⟨.bl b,H,I.tok tk,rfl,q⟩
end
end L2
namespace Iv
open PySem PySem.Spec PyProof.Rows L2
noncomputable abbrev St:=L2.St
structure Adr where
 f:Nat->Addr
 c:Nat->Addr
 k:Nat->Addr
 s:Addr
noncomputable def Cg(i r:Int)(m:Nat):Prop:=∃q:Int,i=r+m*q
theorem Cg.exact{i r:Int}(h:Cg i r 0):i=r:=by obtain⟨q,e⟩:=h;simpa using e
theorem Cg.refl(i:Int)(m:Nat):Cg i i m:=⟨0,by simp⟩
noncomputable def RU(A:Adr)(α:List Addr):U->V->Prop
 | .non,v=>v=.non
 | .bl b,v=>v=.bl b
 | .int r m,v=>∃i,v=.int i/\Cg i r m
 | .str x,v=>v=.str ⟨x.toArray⟩
 | .ref n,v=>∃a,α[n]?=some a/\v=.ref a
 | .con k,v=>v=.ref (A.k k)
 | .scr,v=>v=.ref A.s
noncomputable abbrev RUs(A:Adr)(α:List Addr):List U->List V->Prop:=Paired (RU A α)
noncomputable def RF(T:Tbl)(A:Adr)(α:List Addr):List (Nat×U)->List (Str×V)->Prop:=Paired fun p q=>T.fns'[p.1]?=some q.1/\RU A α p.2 q.2
noncomputable def RK:U->Key->Prop
 | .int i m,k=>m=0/\k=Sum.inl i
 | .str x,k=>k=Sum.inr ⟨x.toArray⟩
 | _,_=>False
noncomputable def RD(A:Adr)(α:List Addr):List (U×U)->List (Key×V)->Prop:=Paired fun p q=>RK p.1 q.1/\RU A α p.2 q.2
noncomputable abbrev RKs:List U->List Key->Prop:=Paired RK
noncomputable def RT(A:Adr)(α:List Addr):List (List U×U)->List (List Key×V)->Prop:=Paired fun p q=>RKs p.1 q.1/\RU A α p.2 q.2
noncomputable def EF(T:Tbl)(H:Hp)(c:Nat)(dd:Option Addr):Prop:=∀f,T.efl.contains (c,f)=true->∃d od x,dd=some d/\T.fns'[f]?=some x/\H d=some (.frz od (.xd [(x,.non)]))
theorem EF.fz{T:Tbl}{H H':Hp}{c:Nat}{dd:Option Addr}(h:EF T H c dd)(k:∀b o fs,H b=some (.frz o (.xd fs))->H' b=some (.frz o (.xd fs))):EF T H' c dd:=fun f q=>by
 obtain⟨d,od,x,e1,e2,e3⟩:=h f q
 exact⟨d,od,x,e1,e2,k _ _ _ e3⟩
noncomputable def RO(T:Tbl)(A:Adr)(α:List Addr)(H:Hp)(a:Addr):O->Prop
 | .lst xs=>∃vs,H a=some (.lst vs)/\RUs A α xs vs
 | .tup xs=>∃vs,H a=some (.tup vs)/\RUs A α xs vs
 | .ins c fs=>∃dx fv,H a=some (.ins (A.c c) dx fv)/\RF T A α fs fv/\c<T.cls.length
 | .dic kvs=>∃kv,H a=some (.dK kv)/\RD A α kvs kv
 | .dct kvs=>∃kv,H a=some (.dT kv)/\RT A α kvs kv
 | .fzd kvs=>∃kv ob,H a=some (.frz ob (.dK kv))/\RD A α kvs kv
 | .fzt kvs=>∃kv ob,H a=some (.frz ob (.dT kv))/\RT A α kvs kv
 | .err c=>∃dd,H a=some (Qc7 a (A.c c) dd)/\T.ers.contains c=true/\EF T H c dd
structure RH(T:Tbl)(A:Adr)(α:List Addr)(hs:Hs)(H:Hp):Prop where
 len:α.length=hs.length
 nd:∀(i j:Nat) a,α[i]?=some a->α[j]?=some a->i=j\/∃vs,H a=some (.tup vs)
 ob:∀(n:Nat) a o,α[n]?=some a->hs[n]?=some o->RO T A α H a o
noncomputable def QkZ(K:PySem.W.Frag)(H:Hp)(a:Addr)(xs:List V):Prop:=(∃o,H a=some (.frz o (.lst xs))) \/
 ∃ (o : Obj) (its : Array Value) (n : Nat), K.lookup a = some o /\ o.cls = .type "list" /\ o.dict = none /\ o.data = .seq its n /\ its.size <= sizeLine /\ Vals xs its.toList
noncomputable def Scr(T:Tbl)(A:Adr)(K:PySem.W.Frag)(H:Hp):Prop:=∃vs,RUs A [] T.scr vs/\QkZ K H A.s vs
structure Rep(T:Tbl)(A:Adr)(K:PySem.W.Frag)(α:List Addr)(hs:Hs)(H:Hp):Prop where
 h:RH T A α hs H
 s:Scr T A K H
structure Ext(α α':List Addr)(H H':Hp):Prop where
 pre:∀(n:Nat) a,α[n]?=some a->α'[n]?=some a
 new:∀(n:Nat) a,α'[n]?=some a->α.length<=n->H a=none\/∃vs,H a=some (.tup vs)
 keep:∀b o,H b=some o->b∉α->H' b=some o
 fz:∀b o u,H b=some (.frz o u)->H' b=some (.frz o u)
 tr:∀b o,H b=some o->∃o',H' b=some o'/\∀vs,o=.tup vs↔o'=.tup vs
structure RS(A:Adr)(α:List Addr)(ρ:Rho)(σ:St):Prop where
 len:ρ.length=σ.length
 val:∀(i:Nat) u,ρ[i]?=some (some u)->∃v,σ[i]?=some (some v)/\RU A α u v
section
variable {T:Tbl}{A:Adr}{K:PySem.W.Frag}{α α' α1 α2:List Addr}{hs hs' h1 h2:Hs}{H H' H1 H2:Hp}{u:U}{v:V}{us:List U}{vs:List V}{ρ:Rho}{σ:St}
theorem RU.mono(p:∀(n:Nat) a,α[n]?=some a->α'[n]?=some a)(h:RU A α u v):RU A α' u v:=by
 cases u with
 | ref n=>obtain⟨a,e,r⟩:=h;exact⟨a,p _ _ e,r⟩
 | _=>exact h
theorem RUs.mono(p:∀(n:Nat) a,α[n]?=some a->α'[n]?=some a)(h:RUs A α us vs):RUs A α' us vs:=Paired.mapP h fun _ _ r=>RU.mono p r
theorem RF.mono{fs:List (Nat×U)}{fv:List (Str×V)}(p:∀(n:Nat) a,α[n]?=some a->α'[n]?=some a)(h:RF T A α fs fv):RF T A α' fs fv:=Paired.mapP h fun _ _ r=>⟨r.1,r.2.mono p⟩
theorem RD.mono{fs:List (U×U)}{fv:List (Key×V)}(p:∀(n:Nat) a,α[n]?=some a->α'[n]?=some a)(h:RD A α fs fv):RD A α' fs fv:=Paired.mapP h fun _ _ r=>⟨r.1,r.2.mono p⟩
theorem RT.mono{fs:List (List U×U)}{fv:List (List Key×V)}(p:∀(n:Nat) a,α[n]?=some a->α'[n]?=some a)(h:RT A α fs fv):RT A α' fs fv:=Paired.mapP h fun _ _ r=>⟨r.1,r.2.mono p⟩
theorem RS.mono(p:∀(n:Nat) a,α[n]?=some a->α'[n]?=some a)(h:RS A α ρ σ):RS A α' ρ σ:=⟨h.len,fun i u e=>let ⟨v,e1,r⟩:=h.val i u e;⟨v,e1,r.mono p⟩⟩
theorem Ext.refl:Ext α α H H:=⟨fun _ _ e=>e,fun n a e l=>by
 have:=(List.getElem?_eq_some_iff.mp e).1
 lia,fun _ _ e _=>e,fun _ _ _ e=>e,fun _ o e=>⟨o,e,fun _=>Iff.rfl⟩⟩
theorem getElem?_lt{n:Nat}{a:Addr}(e:α[n]?=some a):n < α.length:=(List.getElem?_eq_some_iff.mp e).1
theorem Ext.trans(a:Ext α α1 H H1)(b:Ext α1 α2 H1 H2)(R:RH T A α2 h2 H2):Ext α α2 H H2 where
 fz:=fun c o kv e=>b.fz c o kv (a.fz c o kv e)
 pre:=fun n x e=>b.pre n x (a.pre n x e)
 tr:=fun c o e=>by
  obtain⟨o1,e1,q1⟩:=a.tr c o e
  obtain⟨o2,e2,q2⟩:=b.tr c o1 e1
  exact⟨o2,e2,fun vs=>(q1 vs).trans (q2 vs)⟩
 new:=fun n x e l=>by
  by_cases hn:n < α1.length
  ·have e1:α1[n]?=some α1[n]:=List.getElem?_eq_getElem hn
   have e2:=b.pre n _ e1
   rw [e]at e2
   cases e2
   exact a.new n _ e1 l
  ·cases q:H x with
   | none=>exact .inl rfl
   | some o =>
    obtain⟨o1,e1,q1⟩:=a.tr x o q
    rcases b.new n x e (by lia)with z | ⟨vs,z⟩
    ·rw [e1]at z;cases z
    ·rw [e1]at z;cases z;exact .inr ⟨vs,congrArg some ((q1 vs).mpr rfl)⟩
 keep:=fun c o e hc=>by
  by_cases hm:c∈α1
  ·obtain⟨n,hn⟩:=List.getElem?_of_mem hm
   by_cases l:n < α.length
   ·have e1:α[n]?=some α[n]:=List.getElem?_eq_getElem l
    have:=a.pre n _ e1
    rw [hn]at this
    cases this
    exact absurd (List.getElem_mem l) hc
   ·rcases a.new n c hn (by lia)with z | ⟨vs,z⟩
    ·rw [z]at e;cases e
    ·rw [e]at z
     cases z
     obtain⟨o1,e1,q1⟩:=a.tr c _ e
     obtain⟨o2,e2,q2⟩:=b.tr c o1 e1
     rw [e2,((q1 vs).trans (q2 vs)).mp rfl]
  ·exact b.keep c o (a.keep c o e hc) hm
theorem RO.trk{a:Addr}{o:O}(h:RO T A α H a o):∃x,H a=some x/\(∀ob u,x≠.frz ob (.lst u))/\∀ob u,x≠.frz ob (.xd u):=by
 cases o with
 | lst xs=>obtain⟨vs,e,_⟩:=h;exact⟨_,e,(fun _ _ z=>nomatch z),fun _ _ z=>nomatch z⟩
 | tup xs=>obtain⟨vs,e,_⟩:=h;exact⟨_,e,(fun _ _ z=>nomatch z),fun _ _ z=>nomatch z⟩
 | ins c fs=>obtain⟨dx,fv,e,_⟩:=h;exact⟨_,e,(fun _ _ z=>nomatch z),fun _ _ z=>nomatch z⟩
 | dic _=>obtain⟨kv,e,_⟩:=h;exact⟨_,e,(fun _ _ z=>nomatch z),fun _ _ z=>nomatch z⟩
 | dct _=>obtain⟨kv,e,_⟩:=h;exact⟨_,e,(fun _ _ z=>nomatch z),fun _ _ z=>nomatch z⟩
 | fzd _=>obtain⟨kv,ob,e,_⟩:=h;exact⟨_,e,(fun _ _ z=>nomatch z),fun _ _ z=>nomatch z⟩
 | fzt _=>obtain⟨kv,ob,e,_⟩:=h;exact⟨_,e,(fun _ _ z=>nomatch z),fun _ _ z=>nomatch z⟩
 | err _=>obtain⟨dd,e,_⟩:=h;exact⟨_,e,(fun _ _ z=>nomatch z),fun _ _ z=>nomatch z⟩
theorem RH.trk(R:RH T A α hs H){n:Nat}{a:Addr}(e:α[n]?=some a):∃o,hs[n]?=some o/\RO T A α H a o:=by
 have l:=getElem?_lt e
 rw [R.len]at l
 exact⟨hs[n],List.getElem?_eq_getElem l,R.ob n a _ e (List.getElem?_eq_getElem l)⟩
theorem RH.adr(R:RH T A α hs H){n:Nat}{o:O}(e:hs[n]?=some o):∃a,α[n]?=some a/\RO T A α H a o:=by
 have l:n<hs.length:=(List.getElem?_eq_some_iff.mp e).1
 rw [<-R.len]at l
 exact⟨α[n],List.getElem?_eq_getElem l,R.ob n _ _ (List.getElem?_eq_getElem l) e⟩
theorem RH.notIn(R:RH T A α hs H){p:Addr}(h:H p=none):p∉α:=fun m=>by
 obtain⟨n,e⟩:=List.getElem?_of_mem m
 obtain⟨o,_,r⟩:=R.trk e
 obtain⟨x,e,_⟩:=r.trk
 rw [h]at e
 cases e
theorem RH.nd_keep(R:RH T A α hs H)(k:∀b x,b∈α->H b=some x->H' b=some x):∀(i j:Nat) a,α[i]?=some a->α[j]?=some a->i=j\/∃vs,H' a=some (.tup vs):=fun i j a e1 e2 =>
 (R.nd i j a e1 e2).imp id fun⟨vs,q⟩=>⟨vs,k a _ (List.mem_of_getElem? e1) q⟩
theorem QcE{p:Addr}(h:∀(i j:Nat) a,α[i]?=some a->α[j]?=some a->i=j\/∃vs,H a=some (.tup vs))(n:p∉α):∀(i j:Nat) a,(α++[p])[i]?=some a->(α++[p])[j]?=some a->i=j\/∃vs,H a=some (.tup vs):=fun i j a e1 e2=>by
 have cs:∀{k:Nat},(α++[p])[k]?=some a->α[k]?=some a\/(k=α.length/\a=p):=fun {k} e=>by
  by_cases l:k < α.length
  ·rw [List.getElem?_append_left l]at e
   exact .inl e
  ·rw [List.getElem?_append_right (by lia)]at e
   have:=(List.getElem?_eq_some_iff.mp e).1
   simp at this
   have hk:k=α.length:=by lia
   subst hk
   simp at e
   exact .inr ⟨rfl,e.symm⟩
 rcases cs e1 with q1 | ⟨q1,w1⟩
 ·rcases cs e2 with q2 | ⟨q2,w2⟩
  ·exact h i j a q1 q2
  ·exact absurd (w2▸List.mem_of_getElem? q1) n
 ·rcases cs e2 with q2 | ⟨q2,w2⟩
  ·exact absurd (w1▸List.mem_of_getElem? q2) n
  ·exact .inl (q1.trans q2.symm)
theorem RO.keep{a:Addr}{o:O}(h:RO T A α H a o)(p:∀(n:Nat) a,α[n]?=some a->α'[n]?=some a)(k:∀b x,H b=some x->(b=a\/∃o fs,x=.frz o (.xd fs))->H' b=some x):RO T A α' H' a o:=by
 have kx:=k
 have k:=fun x e=>kx a x e (.inl rfl)
 cases o with
 | lst xs=>obtain⟨vs,e,r⟩:=h;exact⟨vs,k _ e,RUs.mono p r⟩
 | tup xs=>obtain⟨vs,e,r⟩:=h;exact⟨vs,k _ e,RUs.mono p r⟩
 | ins c fs=>obtain⟨dx,fv,e,r,l⟩:=h;exact⟨dx,fv,k _ e,RF.mono p r,l⟩
 | dic _=>obtain⟨kv,e,r⟩:=h;exact⟨kv,k _ e,RD.mono p r⟩
 | dct _=>obtain⟨kv,e,r⟩:=h;exact⟨kv,k _ e,RT.mono p r⟩
 | fzd _=>obtain⟨kv,ob,e,r⟩:=h;exact⟨kv,ob,k _ e,RD.mono p r⟩
 | fzt _=>obtain⟨kv,ob,e,r⟩:=h;exact⟨kv,ob,k _ e,RT.mono p r⟩
 | err _=>obtain⟨dd,e,l,q⟩:=h;exact⟨dd,k _ e,l,q.fz fun b o fs e=>kx b _ e (.inr ⟨o,fs,rfl⟩)⟩
theorem Scr.keep(h:Scr T A K H)(k:∀x,H A.s=some x->(∃o u,x=.frz o (.lst u))->H' A.s=some x):Scr T A K H':=by
 obtain⟨vs,r,q | q⟩:=h
 ·obtain⟨o,e⟩:=q
  exact⟨vs,r,.inl ⟨o,k _ e ⟨_,_,rfl⟩⟩⟩
 ·exact⟨vs,r,.inr q⟩
theorem Scr.sq(h:Scr T A K H):∃vs,RUs A α T.scr vs/\SqL K H A.s vs:=by
 obtain⟨vs,r,q⟩:=h
 refine⟨vs,RUs.mono (fun n a e=>by simp at e) r,?_⟩
 rcases q with⟨o,e⟩ | q
 ·exact .inl (.inr ⟨o,e⟩)
 ·exact .inr q
theorem QH{p:Addr}:(α++[p])[α.length]?=some p:=by simp
theorem Qy{p:Addr}:∀(n:Nat) a,α[n]?=some a->(α++[p])[n]?=some a:=fun n a e=>by
 rw [List.getElem?_append_left (getElem?_lt e)]
 exact e
theorem Qz{β:Type}{l:List β}{p a:β}{n:Nat}(e:(l++[p])[n]?=some a):l[n]?=some a\/(n=l.length/\a=p):=by
 by_cases h:n<l.length
 ·rw [List.getElem?_append_left h]at e
  exact .inl e
 ·rw [List.getElem?_append_right (by lia)]at e
  have:n-l.length=0:=by
   cases q:n-l.length with
   | zero=>rfl
   | succ k=>rw [q]at e;simp at e
  rw [this]at e
  simp at e
  exact .inr ⟨by lia,e.symm⟩
theorem Rep.new{p:Addr}{o:O}{ho:HO}(R:Rep T A K α hs H)(hp:H p=none)(r:RO T A (α++[p]) (upd H p ho) p o):Rep T A K (α++[p]) (hs++[o]) (upd H p ho)/\Ext α (α++[p]) H (upd H p ho):=by
 have ne:∀b x,H b=some x->b≠p:=fun b x e z=>by rw [z,hp]at e;cases e
 refine⟨⟨⟨by simp [R.h.len],QcE (R.h.nd_keep fun b x _ e=>by rw [Qb (ne _ _ e)];exact e) (R.h.notIn hp),fun n a ob e1 e2=>?_⟩,R.s.keep fun x e _=>by rw [Qb (ne _ _ e)];exact e⟩,⟨Qy,fun n a e l=>?_,fun b x e _=>by rw [Qb (ne _ _ e)];exact e,fun b x kv e=>by rw [Qb (ne _ _ e)];exact e,fun b x e=>⟨x,by rw [Qb (ne _ _ e)];exact e,fun _=>Iff.rfl⟩⟩⟩
 ·rcases Qz e1 with q | ⟨q1,q2⟩
  ·rcases Qz e2 with z | ⟨z,_⟩
   ·exact RO.keep (R.h.ob n a ob q z) Qy fun _ x e _=>by rw [Qb (ne _ _ e)];exact e
   ·have:=getElem?_lt q
    rw [R.h.len]at this
    lia
  ·subst q2
   rcases Qz e2 with z | ⟨_,z⟩
   ·have:=(List.getElem?_eq_some_iff.mp z).1
    rw [<-R.h.len]at this
    lia
   ·subst z
    exact r
 ·rcases Qz e with q | ⟨_,q⟩
  ·have:=getElem?_lt q
   lia
  ·rw [q];exact .inl hp
theorem Rep.side{p:Addr}{ho:HO}(R:Rep T A K α hs H)(hp:H p=none):Rep T A K α hs (upd H p ho)/\Ext α α H (upd H p ho):=by
 have k:∀b x,H b=some x->upd H p ho b=some x:=fun b x e=>by rw [Qb (fun z=>by rw [z,hp]at e;cases e)];exact e
 exact⟨⟨⟨R.h.len,R.h.nd_keep fun b x _ e=>k b x e,fun n a o e1 e2=>RO.keep (R.h.ob n a o e1 e2) (fun _ _ e=>e) fun b x e _=>k b x e⟩,R.s.keep fun x e _=>k _ x e⟩,⟨fun _ _ e=>e,fun n a e l=>absurd (getElem?_lt e) (Nat.not_lt.mpr l),fun b x e _=>k b x e,fun b x u e=>k b _ e,fun b x e=>⟨x,k b x e,fun _=>Iff.rfl⟩⟩⟩
theorem Rep.put0{n:Nat}{a:Addr}{o:O}{ho:HO}(R:Rep T A K α hs H)(ha:α[n]?=some a)(r:RO T A α (upd H a ho) a o)(ht:∀vs,H a≠some (.tup vs):=by intro _ z;simp only [*,Option.some.injEq,reduceCtorEq]at z):Rep T A K α (hs.set n o) (upd H a ho):=by
 have ta:=R.h.trk ha
 obtain⟨o0,_,r0⟩:=ta
 obtain⟨x0,e0,nf,nx⟩:=r0.trk
 have nd:∀(i j:Nat) c,α[i]?=some c->α[j]?=some c->i=j\/∃vs,upd H a ho c=some (.tup vs):=fun i j c e1 e2=>by
  rcases R.h.nd i j c e1 e2 with q | ⟨vs,q⟩
  ·exact .inl q
  ·exact .inr ⟨vs,by rw [Qb (fun(z:c=a)=>ht vs (z▸q))];exact q⟩
 refine⟨⟨by simp [R.h.len],nd,fun m b ob e1 e2=>?_⟩,R.s.keep fun x e z=>?_⟩
 ·by_cases hm:m=n
  ·subst hm
   rw [ha]at e1
   cases e1
   have l:m<hs.length:=by rw [<-R.h.len];exact getElem?_lt ha
   rw [List.getElem?_set_self l]at e2
   cases e2
   exact r
  ·rw [List.getElem?_set_ne (Ne.symm hm)]at e2
   have hb:b≠a:=fun z=>by
    rcases R.h.nd m n a (z▸e1) ha with q | ⟨vs,q⟩
    ·exact hm q
    ·exact ht vs q
   refine RO.keep (R.h.ob m b ob e1 e2) (fun _ _ e=>e) fun c x e w=>?_
   rcases w with rfl | ⟨oz,fs,rfl⟩
   ·rw [Qb hb];exact e
   ·rw [Qb (fun z=>by rw [z,e0]at e;cases e;exact nx _ _ rfl)];exact e
 ·obtain⟨ob,u,z⟩:=z
  have hb:A.s≠a:=fun q=>by rw [q,e0]at e;cases e;exact nf _ _ z
  rw [Qb hb]
  exact e
theorem Rep.put{n:Nat}{a:Addr}{o:O}{ho:HO}(R:Rep T A K α hs H)(ha:α[n]?=some a)(r:RO T A α (upd H a ho) a o)(hz:∀ob u,H a≠some (.frz ob u):=by intro _ _ z;simp only [*,Option.some.injEq,reduceCtorEq]at z)(ht:∀vs,H a≠some (.tup vs):=by intro _ z;simp only [*,Option.some.injEq,reduceCtorEq]at z)(hh:∀vs,ho≠.tup vs:=by intro _ z;cases z):Rep T A K α (hs.set n o) (upd H a ho)/\Ext α α H (upd H a ho):=by
 refine⟨R.put0 ha r ht,⟨fun _ _ e=>e,fun m b e l=>by have:=getElem?_lt e;lia,fun b x e hb=>?_,fun b ob kv e=>?_,fun b x e=>?_⟩⟩
 ·have hb':b≠a:=fun z=>hb (z▸List.mem_of_getElem? ha)
  rw [Qb hb']
  exact e
 ·have hb':b≠a:=fun z=>hz ob kv (z▸e)
  rw [Qb hb']
  exact e
 ·by_cases hb':b=a
  ·subst hb'
   exact⟨ho,Qe,fun vs=>⟨fun z=>absurd (z▸e) (ht vs),fun z=>absurd z (hh vs)⟩⟩
  ·exact⟨x,by rw [Qb hb'];exact e,fun _=>Iff.rfl⟩
theorem RS.get(R:RS A α ρ σ){i:Nat}{u:U}(e:ρ[i]?=some (some u)):∃v,σ[i]?=some (some v)/\RU A α u v:=R.val i u e
theorem RS.set(R:RS A α ρ σ)(i:Nat)(r:RU A α u v):RS A α (ρ.set i (some u)) (σ.set i (some v)):=by
 refine⟨by simp [R.len],fun j w e=>?_⟩
 by_cases h:j=i
 ·subst h
  have l:j < ρ.length:=by
   have:=(List.getElem?_eq_some_iff.mp e).1
   simpa using this
  rw [List.getElem?_set_self l]at e
  cases e
  exact⟨v,List.getElem?_set_self (by rw [<-R.len];exact l),r⟩
 ·rw [List.getElem?_set_ne (Ne.symm h)]at e
  rw [List.getElem?_set_ne (Ne.symm h)]
  exact R.val j w e
end
noncomputable def flE(A:Adr)(α:List Addr)(D:Ends)(σ:St)(H:Hp):Fl->Prop
 | .next=>D.nx σ H
 | .brk=>D.bk σ H
 | .cont=>D.ct σ H
 | .ret u=>∀v,RU A α u v->D.rt v H
section
variable (T:Tbl)(A:Adr)(K:PySem.W.Frag)
noncomputable def TI(f:Rho->Hs->Option (U×Hs)):TE:=fun σ H Q=>∃α ρ hs u hs',RS A α ρ σ/\Rep T A K α hs H/\f ρ hs=some (u,hs') /\
 ∀α' v H',Ext α α' H H'->Rep T A K α' hs' H'->RU A α' u v->Q v H'
noncomputable def TIT(f:Rho->Hs->Option (Bool×Hs)):TT:=fun σ H Q=>∃α ρ hs u hs',RS A α ρ σ/\Rep T A K α hs H/\f ρ hs=some (u,hs') /\
 ∀α' H',Ext α α' H H'->Rep T A K α' hs' H'->Q u H'
noncomputable def TIA(f:Rho->Hs->Option (List U×Hs)):TA:=fun σ H Q=>∃α ρ hs us hs',RS A α ρ σ/\Rep T A K α hs H/\f ρ hs=some (us,hs') /\
 ∀α' vs H',Ext α α' H H'->Rep T A K α' hs' H'->RUs A α' us vs->Q vs H'
noncomputable def TIS(f:Ex):TS:=fun D σ H=>∃α ρ hs fl ρ' hs',RS A α ρ σ/\Rep T A K α hs H/\f ρ hs=some (fl,ρ',hs') /\
 ∀α' σ' H',Ext α α' H H'->Rep T A K α' hs' H'->RS A α' ρ' σ'->flE A α' D σ' H' fl
end
section
variable {T:Tbl}{A:Adr}{K:PySem.W.Frag}{α:List Addr}{ρ:Rho}{σ:St}{hs h1:Hs}{H:Hp}
theorem TI.run{f:Rho->Hs->Option (U×Hs)}{u:U}{Q:VK}(rs:RS A α ρ σ)(rp:Rep T A K α hs H)(h:f ρ hs=some (u,h1))
  (k:∀α1 v H1,Ext α α1 H H1->Rep T A K α1 h1 H1->RU A α1 u v->RS A α1 ρ σ->Q v H1):TI T A K f σ H Q :=
 ⟨α,ρ,hs,u,h1,rs,rp,h,fun α1 v H1 e r q=>k α1 v H1 e r q (rs.mono e.pre)⟩
theorem TIT.run{f:Rho->Hs->Option (Bool×Hs)}{u:Bool}{Q:Bool->Hp->Prop}(rs:RS A α ρ σ)(rp:Rep T A K α hs H)(h:f ρ hs=some (u,h1))
  (k:∀α1 H1,Ext α α1 H H1->Rep T A K α1 h1 H1->RS A α1 ρ σ->Q u H1):TIT T A K f σ H Q :=
 ⟨α,ρ,hs,u,h1,rs,rp,h,fun α1 H1 e r=>k α1 H1 e r (rs.mono e.pre)⟩
theorem TIA.run{f:Rho->Hs->Option (List U×Hs)}{us:List U}{Q:List V->Hp->Prop}(rs:RS A α ρ σ)(rp:Rep T A K α hs H)(h:f ρ hs=some (us,h1))
  (k:∀α1 vs H1,Ext α α1 H H1->Rep T A K α1 h1 H1->RUs A α1 us vs->RS A α1 ρ σ->Q vs H1):TIA T A K f σ H Q :=
 ⟨α,ρ,hs,us,h1,rs,rp,h,fun α1 v H1 e r q=>k α1 v H1 e r q (rs.mono e.pre)⟩
end
section
variable {X:Cx}
theorem Q6{e:Expr}{t t':TE}(h:PE X e t)(i:∀σ H Q,t' σ H Q->t σ H Q):PE X e t':=fun pins s σ H Q I q=>h pins s σ H Q I (i σ H Q q)
theorem Qg5{e:Expr}{t t':TT}(h:PT X e t)(i:∀σ H Q,t' σ H Q->t σ H Q):PT X e t':=fun pins s σ H Q I q=>h pins s σ H Q I (i σ H Q q)
theorem Qjc{e:Expr}{t t':TT}(h:PW X e t)(i:∀σ H Q,t' σ H Q->t σ H Q):PW X e t':=fun wh pins s σ H Q I q=>h wh pins s σ H Q I (i σ H Q q)
theorem Qjh{es:List Expr}{t t':TA}(h:PA X es t)(i:∀σ H Q,t' σ H Q->t σ H Q):PA X es t':=fun pos pins s σ H Q I q=>h pos pins s σ H Q I (i σ H Q q)
theorem Zt{st:Stmt}{t t':TS}(h:PS X st t)(i:∀D σ H,t' D σ H->t D σ H):PS X st t':=fun pins s σ H D I q=>h pins s σ H D I (i D σ H q)
theorem Qbi{st:List Stmt}{t t':TS}(h:PSs X st t)(i:∀D σ H,t' D σ H->t D σ H):PSs X st t':=fun pins s σ H D I q=>h pins s σ H D I (i D σ H q)
end
end Iv
namespace Iv
open PySem PySem.Spec PyProof.Rows L2
noncomputable def tyV:Ty->String
 | .non=>"NoneType" | .bool=>"bool" | .int=>"int" | .str=>"str" | .list=>"list" | .tuple=>"tuple" | .dict=>"dict" | .cls _=>"object" | .vale=>"ValueError"
noncomputable def tyW(A:Adr):Ty->Value
 | .cls c=>.ref (A.c c)
 | t=>.type (tyV t)
structure ClOk(T:Tbl)(A:Adr)(K:PySem.W.Frag)(i:Nat)(C:Cl):Prop where
 cls:Cls K (A.c i)
 nf:∀x∈T.fns',QdD K (A.c i) x
 me:∀m f,C.meths.lookup m=some f->∃x,T.mns[m]?=some x/\Meth K (A.c i) x (A.f f)
 mks:PySem.W.makesIn K (A.c i)=true
 kp:PySem.W.keepIn K (.ref (A.c i))=true
 ini:match C.init with
  | some f => PySem.W.findIn K (.ref (A.c i)) "__init__" = some (some (.ref (A.f f))) /\ PySem.W.isFn K (.ref (A.f f)) = true
  | none=>PySem.W.findIn K (.ref (A.c i)) "__init__"=some (some (.builtin "object.__init__"))
 ty:∀(H:Hp) (a dx:Addr) (fs:List (Str×V)),H a=some (.ins (A.c i) dx fs)->TyOf K H (.ref a) (.ref (A.c i))
structure FunD(K:PySem.W.Frag)(x qual:Str)(st:Stmt)(f:Addr)(fd:FuncData):Prop where
 ex:∃(oc:Value) (od:Option Addr) (dV kV doc pm:Value) (an:Option Addr) (cdv ct:Value) (osl:Array (Option Value)),
  fd=PySem.W.fnOf x qual (Qh st) (Qg st) (Qa st) dV kV doc pm an cdv ct/\K.lookup f=some ⟨oc,od,.func fd,osl⟩/\PySem.W.codeIn K cdv qual=true
 kp:PySem.W.keepIn K (.ref f)=true
theorem FunD.ok{P:Program}{w:World}{K:PySem.W.Frag}{mg:Str->Option Value}{base:Heap}{x qual:Str}{st:Stmt}{f:Addr}{fd:FuncData}{N ps:List Str}{k:Nat}{sp:Sp}(F:FunD K x qual st f fd)(S:FnScope N ps (Qa st))(len:∀vs H Q E,sp vs H Q E->vs.length=ps.length)
  (hbody:∀(cdv:Value) (A:Around) (outer:List Env) (s:Shared) (H:Hp) (vs:List V) (Q:VK) (E:XK),Room k (A.deeper (envOfC qual (Qa st) s.heap.objs.size f cdv))->sp vs H Q E ->
   ∃t,PSs (QbK CX0 P w K mg base N qual (Qa st) f cdv A outer s H E).nox (Qg st) t/\t { nx:=fun _ H'=>Q .non H',rt:=Q } (start N vs) H):FnOk P w K mg base CX0 (k+1) f fd ps sp:=by
 obtain⟨oc,od,dV,kV,doc,pm,an,cdv,ct,osl,rfl,lk,hcd⟩:=F.ex
 refine QgK lk hcd S len fun A outer s H vs Q E hr hsp=>?_
 obtain⟨t,h,q⟩:=hbody cdv A outer s H vs Q E hr hsp
 exact⟨t,h.nox,q⟩
theorem FunD.same{K:PySem.W.Frag}{x y q q':Str}{st st':Stmt}{f:Addr}{fd fd':FuncData}(a:FunD K x q st f fd)(b:FunD K y q' st' f fd'):fd=fd':=by
 obtain⟨_,_,_,_,_,_,_,_,_,_,_,l1,_⟩:=a.ex
 obtain⟨_,_,_,_,_,_,_,_,_,_,_,l2,_⟩:=b.ex
 rw [l1]at l2
 cases l2
 rfl
noncomputable def kg{β:Type}(us ws:List β):List β:=us++ws.take 1
noncomputable def Qjz(A:Adr)(K:PySem.W.Frag)(fd:FuncData)(D:Df):Prop:=∃(ds:List Value) (dvs:List V),RUs A [] D.ds dvs/\Vals dvs ds/\(∀n,Binds K fd D.ps (ds.drop n))/\KBinds K fd D.ps [D.last] kg kg
noncomputable def QdE(K:PySem.W.Frag)(mg:Str->Option Value)(C:Addr)(x:Str):Prop:=PySem.W.hasDictIn K C=true/\PySem.W.findIn K (.ref C) x=some none/\∃fI fd ps,Exi K C fI/\Binds K fd ps [.none]/\∀P w base,FnOk P w K mg base CX0 2 fI fd ps (spI C x .non)
structure Txt(T:Tbl)(A:Adr)(K:PySem.W.Frag)(mg:Str->Option Value):Prop where
 fn:∀i F,T.fns[i]?=some F->∃fd,FunD K F.name F.qual F.st (A.f i) fd/\Binds K fd F.ps []/\FnScope F.N F.ps (Qa F.st)/\F.ps.length=F.np/\F.N.length=F.nN
 df:∀i D,T.dfl.lookup i=some D->∃fd x q st,FunD K x q st (A.f i) fd/\Qjz A K fd D/\∀F,T.fns[i]?=some F->F.ps=D.ps/\F.np=D.np
 cl:∀i C,T.cls[i]?=some C->ClOk T A K i C
 fm:∀x∈T.fns',x∉T.mns
 fd:T.fns'.Nodup
 isi:∀k t b,T.isi.lookup (k,t)=some b->PySem.W.kitOne K (tyW A k) (tyW A t)=some b
 co:∀k c,T.cons[k]?=some c->match c with
  | Co.tup xs=>∃vs,RUs A [] xs vs/\∀H,SqT K H (A.k k) vs
  | Co.lst xs=>∃vs,RUs A [] xs vs/\∀H,SqL K H (A.k k) vs
  | Co.tab _=>True
 er : ∀ c, T.ers.contains c = true -> ErrCls K (A.c c) /\ ((∀ f, T.efl.contains (c, f) = false) /\ PySem.W.excIn K (A.c c) Jp "ValueError.__new__" = true \/ ∃ f x, T.efl.contains (c, f) = true /\ (∀ f', T.efl.contains (c, f') = true -> f' = f) /\ T.fns'[f]? = some x /\ QdE K mg (A.c c) x)
 es:∀c c',T.esb.contains (c,c')=true->PySem.W.exmOne K (.ref (A.c c)) (.ref (A.c c'))=some true
noncomputable def Qgw:U->Key->Prop
 | .int i 0,k=>k=.inl i
 | .str x,k=>k=.inr ⟨x.toArray⟩
 | _,_=>False
noncomputable def Jo(P:Program)(w:World)(T:Tbl)(A:Adr)(K:PySem.W.Frag):Prop:=∀k kvs,T.cons[k]?=some (.tab kvs) ->
 ∃vs:List (Key×Value),(A.k k==sysModules)=false/\(∀h:Heap,K.In h->h.DictOf (QB P w) (A.k k) vs)/\Paired (fun(p:U×U) (q:Key×Value)=>Qgw p.1 q.1/\∃v,RU A [] p.2 v/\RelV v q.2) kvs vs
structure GX(T:Tbl)(A:Adr)(C:Ctx)(X:Cx):Prop where
 CT:C.T=T
 N:X.N=C.N
 nd:X.N.Nodup
 sc:X.env.scope.names=C.names
 calm:hdC C=false->X.calm=true
 kind:X.env.scope.kind=.function
 xe:X.xe=fun _ _=>False
 gfn:∀x i,C.gl.lookup x=some (.fn i)->X.mg x=some (.ref (A.f i))
 gcl:∀x i,C.gl.lookup x=some (.cls i)->X.mg x=some (.ref (A.c i))
 gco:∀x k,C.gl.lookup x=some (.con k)->X.mg x=some (.ref (A.k k))
 gtx:∀x t,C.gl.lookup x=some (.txt t)->∃k,X.mg x=some (.str ⟨t.toArray⟩ k)
 blt:∀x,¬C.bl.contains x=false->X.mg x=none
 txt:Txt T A X.K X.mg
 tab:Jo X.prog X.w T A X.K
noncomputable def spC(T:Tbl)(A:Adr)(K:PySem.W.Frag)(cf:Cf)(f:Nat):Sp:=fun vs H Q _=>∃α us hs u hs',RUs A α us vs/\Rep T A K α hs H/\cf f us hs=some (u,hs')/\(∃F,T.fns[f]?=some F/\us.length=F.np) /\
 ∀α' v H',Ext α α' H H'->Rep T A K α' hs' H'->RU A α' u v->Q v H'
noncomputable def spX(T:Tbl)(A:Adr)(K:PySem.W.Frag)(xf:Nat->List U->Hs->Option (Nat×Hs))(f:Nat):Sp:=fun vs H _ E=>∃α us hs c hs',RUs A α us vs/\Rep T A K α hs H/\xf f us hs=some (c,hs')/\(∃F,T.fns[f]?=some F/\us.length=F.np) /\
 ∀α' H' dd,Ext α α' H H'->Rep T A K α' hs' H'->EF T H' c dd->E (.ref (A.c c)) dd H'
theorem Zf{x:Str}:∀{N:List Str} {i:Nat},idx x N=some i->N[i]?=some x
 | [],_,h=>by simp [idx]at h
 | y::r,i,h=>by
  unfold idx at h
  split at h
  ·rename_i e
   cases h
   simp [e]
  ·cases q:idx x r with
   | none=>rw [q]at h;cases h
   | some j =>
    rw [q]at h
    cases h
    simpa using Zf q
theorem Qhh{T:Tbl}{A:Adr}{C:Ctx}{X:Cx}{x:Str}(g:GX T A C X)(h:Qex C x=true):Vis X.env.scope x:=by
 unfold Qex at h
 unfold Vis
 rw [g.sc]
 split at h<;>simp_all
theorem YS{T:Tbl}{A:Adr}{C:Ctx}{X:Cx}{x:Str}(g:GX T A C X)(h:JL C x=true):L2.Loc X.env.scope x:=by
 unfold JL at h
 unfold L2.Loc
 rw [g.sc]
 split at h<;>simp_all
theorem Zc{T:Tbl}{A:Adr}{C:Ctx}{X:Cx}{x:Str}(g:GX T A C X)(h:ZQ C x=true):Gl X x:=by
 unfold ZQ at h
 show X.env.scope.names.lookup x=some .globalImplicit
 rw [g.sc]
 split at h
 ·assumption
 ·cases h
theorem Q3{x y:Str}(h:x≠y):(x==y)=false:=by simpa using h
theorem Zu{o:Expr}{f:Str}{env:Env}{w:Sem Value}(h:ZP o=true):attributeBase o f env w=w:=by
 unfold attributeBase
 split
 ·cases h
 ·rfl
theorem YM{b:Expr}(h:Yl b=true):QdB b:=by
 intro o i
 cases b<;>first | rfl | cases h
theorem Qk{e:Expr}{es:List Expr}{env:Env}(h:∀x p,e≠.Starred x p):starEach (e::es) env=(false,eval e env)::starEach es env:=by
 cases e<;>first | rfl | exact absurd rfl (h _ _)
noncomputable def J1(es:List Expr):Prop:=∀e∈es,∀x p,e≠.Starred x p
theorem Zn{env:Env}{pos:Pos}:∀{es:List Expr},J1 es->(backTo pos (starEach es env)).any (·.1)=false
 | [],_=>rfl
 | e::r,h=>by
  rw [Qk (h e (List.mem_cons_self ..))]
  have ih:=Zn (env:=env) (pos:=pos) (es:=r) fun x hx=>h x (List.mem_cons_of_mem _ hx)
  unfold backTo at ih ⊢
  rw [List.map_cons,List.any_cons,ih]
  rfl
theorem QF{m:Nat}{C:Ctx}{e:Expr}{ir:E}(h:Qf m C e=some ir):∀x p,e≠.Starred x p:=by
 rintro x p rfl
 cases m<;>first | exact nomatch (show(none:Option E)=some _ from h) | simp [Qf]at h
theorem Qo{C:Ctx}:∀{m:Nat} {es:List Expr} {irs:List E},compA m C es=some irs->J1 es
 | 0,_,_,h=>by simp [compA]at h
 | m+1,[],_,_=>fun _ h=>nomatch h
 | m+1,e::r,irs,h=>by
  simp only [compA,Option.bind_eq_some_iff]at h
  obtain⟨e',he,r',hr,_⟩:=h
  intro x hx
  rcases List.mem_cons.mp hx with rfl | hx
  ·exact QF he
  ·exact Qo hr x hx
section
variable {T:Tbl}{A:Adr}{K:PySem.W.Frag}{α:List Addr}{hs hs':Hs}{H:Hp}{u w:U}{v y:V}
theorem RUs.length{us:List U}{vs:List V}(r:RUs A α us vs):us.length=vs.length:=Paired.length r
theorem RUs.get:∀{us:List U} {vs:List V} {i:Nat} {u:U},RUs A α us vs->us[i]?=some u->∃v,vs[i]?=some v/\RU A α u v
 | _,_,_,_,.nil,e=>by simp at e
 | _,_,0,_,.cons r _,e=>by simp at e;subst e;exact⟨_,rfl,r⟩
 | _,_,i+1,u,.cons _ t,e=>by
  obtain⟨v,h1,h2⟩:=RUs.get (i:=i) (u:=u) t (by simpa using e)
  exact⟨v,by simpa using h1,h2⟩
theorem RUs.append:∀{us ws:List U} {vs ys:List V},RUs A α us vs->RUs A α ws ys->RUs A α (us++ws) (vs++ys)
 | _,_,_,_,.nil,s=>s
 | _,_,_,_,.cons r t,s=>.cons r (RUs.append t s)
theorem Z7{xs:List U}{K':PySem.W.Frag}{mg:Str->Option Value}(tx:Txt T A K mg)(R:Rep T A K α hs H)(h:Z5 T u hs=some xs)(r:RU A α u v):∃a vs,v=.ref a/\RUs A α xs vs/\(SqL K H a vs\/SqT K H a vs):=by
 cases u with
 | ref n =>
  obtain⟨a,ha,rfl⟩:=r
  simp only [Z5]at h
  split at h
  ·rename_i ys e
   cases h
   obtain⟨vs,q,rr⟩:=R.h.ob n a _ ha e
   exact⟨a,vs,rfl,rr,.inl (SqL.of q)⟩
  ·rename_i ys e
   cases h
   obtain⟨vs,q,rr⟩:=R.h.ob n a _ ha e
   exact⟨a,vs,rfl,rr,.inr (SqT.of q)⟩
  ·cases h
 | con k =>
  simp only [Z5]at h
  split at h
  ·rename_i ys e
   cases h
   obtain⟨vs,rr,q⟩:=tx.co k _ e
   exact⟨_,vs,r,RUs.mono (fun n a e=>by simp at e) rr,.inl (q H)⟩
  ·rename_i ys e
   cases h
   obtain⟨vs,rr,q⟩:=tx.co k _ e
   exact⟨_,vs,r,RUs.mono (fun n a e=>by simp at e) rr,.inr (q H)⟩
  ·cases h
 | scr =>
  simp only [Z5]at h
  cases h
  obtain⟨vs,rr,q⟩:=R.s.sq (α:=α)
  exact⟨_,vs,r,rr,.inl q⟩
 | _=>simp [Z5]at h
theorem ZL(x:List Nat):({ cps:=x.toArray }:Str).length=x.length:=by simp [Str.length]
theorem big:(1000000:Nat)<=sizeLine:=by decide
theorem QbT{b:Bool}{mg:Str->Option Value}(tx:Txt T A K mg)(R:Rep T A K α hs H)(h:Zg T u hs=some b)(r:RU A α u v):Qjb K v H b:=by
 have sq:∀{xs:List U},Z5 T u hs=some xs->b=!xs.isEmpty->Qjb K v H b:=fun {xs} e1 e2=>by
  obtain⟨a,vs,rfl,rr,q⟩:=Z7 (K':=K) tx R e1 r
  have e3:b=!vs.isEmpty:=by
   rw [e2]
   cases rr<;>rfl
  rcases q with q | q
  ·exact .inl ⟨vs,q,e3⟩
  ·exact .inr (.inl ⟨vs,q,e3⟩)
 cases u with
 | non=>simp only [Zg]at h;cases h;cases r;rfl
 | bl c=>simp only [Zg]at h;cases h;cases r;rfl
 | int i m =>
  cases m with
  | zero =>
   simp only [Zg]at h
   cases h
   obtain⟨j,rfl,c⟩:=r
   cases c.exact
   show decide (i≠0)=(i != 0)
   by_cases q:i=0<;>simp [q]
  | succ m=>simp [Zg,Z5]at h
 | str x =>
  simp only [Zg]at h
  split at h
  ·rename_i l
   cases h
   cases(show v=.str ⟨x.toArray⟩from r)
   refine⟨by rw [ZL];exact Nat.le_trans l big,?_⟩
   rw [ZL]
   cases x<;>simp
   lia
  ·cases h
 | ref n =>
  simp only [Zg,Option.map_eq_some_iff]at h
  obtain⟨xs,e1,e2⟩:=h
  exact sq e1 e2.symm
 | con n =>
  simp only [Zg,Option.map_eq_some_iff]at h
  obtain⟨xs,e1,e2⟩:=h
  exact sq e1 e2.symm
 | scr =>
  simp only [Zg,Option.map_eq_some_iff]at h
  obtain⟨xs,e1,e2⟩:=h
  exact sq e1 e2.symm
end
end Iv
namespace Iv
open PySem PySem.Spec PyProof.Rows L2
theorem Qfv{i' i j' j:Int}{m n:Nat}(a:Cg i' i m)(b:Cg j' j n):Cg (i'+j') (i+j) (gz m n):=by
 obtain⟨p,rfl⟩:=a
 obtain⟨q,rfl⟩:=b
 cases m with
 | zero=>exact⟨q,by simp [gz];lia⟩
 | succ m =>
  obtain⟨x,hx⟩:=Nat.gcd_dvd_left (m+1) n
  obtain⟨y,hy⟩:=Nat.gcd_dvd_right (m+1) n
  refine⟨x*p+y*q,?_⟩
  have e1:((m+1:Nat):Int)=(Nat.gcd (m+1) n:Int)*(x:Int):=by
   have:=congrArg (fun z:Nat=>(z:Int)) hx
   simpa using this
  have e2:(n:Int)=(Nat.gcd (m+1) n:Int)*(y:Int):=by
   have:=congrArg (fun z:Nat=>(z:Int)) hy
   simpa using this
  show i+((m+1:Nat):Int)*p+(j+(n:Int)*q)=i+j+(Nat.gcd (m+1) n:Int)*(x*p+y*q)
  rw [Int.mul_add,<-Int.mul_assoc,<-Int.mul_assoc,<-e1,<-e2]
  lia
theorem Qfu{i' i:Int}{m:Nat}(a:Cg i' i m):Cg (-i') (-i) m:=by
 obtain⟨p,rfl⟩:=a
 exact⟨-p,by rw [Int.mul_neg];lia⟩
theorem QiU{i' i j' j:Int}{m n:Nat}(a:Cg i' i m)(b:Cg j' j n):Cg (i'-j') (i-j) (gz m n):=by
 have:=Qfv a (Qfu b)
 rw [Int.sub_eq_add_neg,Int.sub_eq_add_neg]
 exact this
theorem QiV{i' i j:Int}{m:Nat}(a:Cg i' i m):Cg (i'*j) (i*j) (m*j.natAbs):=by
 obtain⟨p,rfl⟩:=a
 rcases Int.natAbs_eq j with e | e
 ·refine⟨p,?_⟩
  rw [Int.add_mul,Int.natCast_mul,<-e,Int.mul_right_comm]
 ·refine⟨-p,?_⟩
  have e':(j.natAbs:Int)=-j:=by lia
  rw [Int.add_mul,Int.natCast_mul,e',Int.mul_neg,Int.mul_neg,Int.neg_mul,Int.neg_neg,Int.mul_right_comm]
theorem QiX{i' i j:Int}{m:Nat}(a:Cg i' i m)(hj:0<j)(hd:m % j.toNat=0):Cg (i' / j) (i / j) (m / j.toNat):=by
 obtain⟨p,rfl⟩:=a
 have e:(m:Int)=j*((m / j.toNat:Nat):Int):=by
  have h:=Nat.div_add_mod m j.toNat
  rw [hd,Nat.add_zero]at h
  have h2:=congrArg (fun z:Nat=>(z:Int)) h
  have h3:((j.toNat:Nat):Int)=j:=by lia
  simp only [Int.natCast_mul,h3]at h2
  exact h2.symm
 refine⟨p,?_⟩
 rw [e,Int.mul_assoc,Int.add_mul_ediv_left _ _ (by lia)]
theorem QiW{i' i j:Int}{m:Nat}(a:Cg i' i m)(hj:0<j)(hd:m % j.toNat=0):i' % j=i % j:=by
 obtain⟨p,rfl⟩:=a
 have e:(m:Int)=j*((m / j.toNat:Nat):Int):=by
  have h:=Nat.div_add_mod m j.toNat
  rw [hd,Nat.add_zero]at h
  have h2:=congrArg (fun z:Nat=>(z:Int)) h
  have h3:((j.toNat:Nat):Int)=j:=by lia
  simp only [Int.natCast_mul,h3]at h2
  exact h2.symm
 rw [e,Int.mul_assoc,Int.add_mul_emod_self_left]
theorem Zd{i:Int}(h:Ql i=true):-(2 ^ 64) < i/\i<2 ^ 64:=by
 unfold Ql at h
 rw [Bool.and_eq_true,decide_eq_true_eq,decide_eq_true_eq]at h
 exact h
theorem QfM(x y:List Nat):({ cps:=x.toArray }:Str)++({ cps:=y.toArray }:Str)={ cps:=(x++y).toArray }:=by
 show Str.append _ _=_
 simp [Str.append]
noncomputable def OpS(X:Cx)(T:Tbl)(A:Adr)(o:Operator):Prop:=∃r,OpR X (binaryOp o) r/\∀{α:List Addr} {u w u':U} {hs hs':Hs} {v y:V} {H:Hp} {Q:VK},opU o u w hs=some (u',hs')->RU A α u v->RU A α w y->Rep T A X.K α hs H ->
 (∀α' v' H',Ext α α' H H'->Rep T A X.K α' hs' H'->RU A α' u' v'->Q v' H')->r v y H Q
section
variable {X:Cx}{T:Tbl}{A:Adr}
theorem Qem{o:Operator}(h:∀u w hs,opU o u w hs=none):OpS X T A o:=⟨fun _ _ _ _=>False,fun _ _ _ _ _ _ _ _ _ _ _ _ h=>h.elim,fun e=>by rw [h]at e;cases e⟩
theorem QaZ{o:Operator}{f:U->U->Option U}{r:R2}(ho:OpR X (binaryOp o) r)(hf:∀u w hs,opU o u w hs=(f u w).map fun z=>(z,hs))
  (h:∀{α:List Addr} {u w z:U} {v y:V} {H:Hp} {Q:VK},f u w=some z->RU A α u v->RU A α w y->(∀v',RU A α z v'->Q v' H)->r v y H Q):OpS X T A o:=by
 refine⟨r,ho,?_⟩
 intro α u w u' hs hs' v y H Q e ru rw R k
 rw [hf,Option.map_eq_some_iff]at e
 obtain⟨z,e,q⟩:=e
 cases q
 exact h e ru rw fun v' r'=>k α v' H Ext.refl R r'
theorem Zl{α:List Addr}{i:Int}{v:V}(r:RU A α (.int i 0) v):v=.int i:=by
 obtain⟨j,rfl,c⟩:=r
 cases c.exact
 rfl
theorem Qgk:OpS X T A .Sub:=QaZ Qie (fun _ _ _=>rfl) fun {α u w z v y H Q} h ru rw k=>by
 unfold QjM at h
 split at h
 ·cases h
  obtain⟨i',rfl,a⟩:=ru
  obtain⟨j',rfl,b⟩:=rw
  exact⟨i',j',rfl,rfl,k _ ⟨_,rfl,QiU a b⟩⟩
 ·cases h
theorem Qgi:OpR X (binaryOp .Mult) (rI IntMulOk fun i j=>.int (i*j)):=opI fun _ _ _ _ _ _ _ hc q=>mul_int q hc
theorem Qdx{i:Int}(h:Jn i=true):Builtin.Int.intBits i<=4096:=by
 have h:=of_decide_eq_true h
 unfold Builtin.Int.intBits
 split
 ·lia
 ·rename_i z
  have n0:i.natAbs≠0:=by simpa using z
  exact Nat.succ_le_of_lt ((Nat.log2_lt n0).mpr h)
theorem Zk{i j:Int}(h:(Ql i||Ql j||(Jn i&&Jn j))=true):IntMulOk i j:=by
 rw [Bool.or_eq_true,Bool.or_eq_true,Bool.and_eq_true]at h
 rcases h with(h | h) | h
 ·exact CMul.ok (.inl (Zd h))
 ·exact CMul.ok (.inr (Zd h))
 ·have h1:=Qdx h.1
  have h2:=Qdx h.2
  unfold IntMulOk
  have:Builtin.Int.intTooBig (Builtin.Int.intBits i+Builtin.Int.intBits j)=false:=by
   unfold Builtin.Int.intTooBig
   rw [bitsLine_eq]
   exact decide_eq_false (by lia)
  rw [this]
  simp
theorem RUs.rep{α:List Addr}{us:List U}{vs:List V}(r:RUs A α us vs):∀n:Nat,RUs A α (List.replicate n us).flatten (List.replicate n vs).flatten
 | 0=>.nil
 | n+1=>by
  rw [List.replicate_succ,List.replicate_succ,List.flatten_cons,List.flatten_cons]
  exact RUs.append r (RUs.rep r n)
theorem Qgm:OpS X T A .Mult:=by
 refine⟨_,OpR.or Qgi Qif,?_⟩
 intro α u w u' hs hs' v y H Q e ru rw R k
 by_cases isr:∃a,u=.ref a
 ·obtain⟨a,rfl⟩:=isr
  simp only [opU]at e
  unfold Qlb at e
  split at e
  ·rename_i xs j e1
   split at e
   ·rename_i c
    cases e
    cases Zl rw
    obtain⟨pa,ha,rfl⟩:=ru
    obtain⟨vs,q1,r1⟩:=R.h.ob _ pa _ ha e1
    refine .inr ⟨pa,j,vs,rfl,rfl,q1,c.1,c.2.1,?_,fun p hp=>?_⟩
    ·rw [<-r1.length];exact Nat.le_trans c.2.2 big
    ·obtain⟨R',E'⟩:=R.new (o:=.lst (List.replicate j.toNat xs).flatten) hp ⟨_,Qe,RUs.mono Qy (r1.rep j.toNat)⟩
     exact k _ _ _ E' R' ⟨p,by rw [<-R.h.len];exact QH,rfl⟩
   ·cases e
  ·cases e
 have e:(Qiv u w).map (fun r=>(r,hs))=some (u',hs'):=by
  cases u with
  | ref a=>exact absurd ⟨a,rfl⟩ isr
  | _=>exact e
 rw [Option.map_eq_some_iff]at e
 obtain⟨z,h,q⟩:=e
 cases q
 refine .inl ?_
 have k:∀v',RU A α u' v'->Q v' H:=fun v' r'=>k α v' H Ext.refl R r'
 unfold Qiv at h
 split at h
 ·split at h
  ·rename_i c
   cases h
   cases Zl ru
   cases Zl rw
   exact⟨_,_,rfl,rfl,Zk c,k _ ⟨_,rfl,Cg.refl _ _⟩⟩
  ·cases h
 ·split at h
  ·rename_i c
   cases h
   obtain⟨i',rfl,a⟩:=ru
   cases Zl rw
   exact⟨i',_,rfl,rfl,CMul.ok (.inr (Zd c)),k _ ⟨_,rfl,QiV a⟩⟩
  ·cases h
 ·cases h
noncomputable def Qk3(i j:Int):Prop:=0<j/\j<1606938044258990275541962092341162602522202993782792835301376
theorem Qek{X:Cx}:OpR X (binaryOp .FloorDiv) (rI Qk3 fun i j=>.int (i / j)):=opI fun i j _ _ _ _ _ hc q=>by
 have h1:(0:Int) < j:=hc.1
 have h2:j<1606938044258990275541962092341162602522202993782792835301376:=hc.2
 have h3:j.natAbs.log2<9000:=by
  have h4:j.natAbs<2 ^ 9000:=Nat.lt_of_lt_of_le (show j.natAbs<2 ^ 200 by lia) (Nat.pow_le_pow_right (by decide) (by decide))
  rcases Nat.eq_zero_or_pos j.natAbs with z | z
  ·rw [z];decide
  ·exact(Nat.log2_lt (by lia)).mpr h4
 exact floordiv_int (by lia) (by rw [Int.fdiv_eq_ediv_of_nonneg i (by lia)];exact q) (.inl (PyProof.noPylong_of_log2 h3))
theorem Qen:OpS X T A .FloorDiv:=QaZ Qek (fun _ _ _=>rfl) fun {α u w z v y H Q} h ru rw k=>by
 unfold QiT at h
 split at h
 ·split at h
  ·rename_i c
   cases h
   cases Zl ru
   cases Zl rw
   simp only [Bool.and_eq_true,decide_eq_true_eq]at c
   exact⟨_,_,rfl,rfl,c,k _ ⟨_,rfl,Cg.refl _ _⟩⟩
  ·cases h
 ·split at h
  ·rename_i c
   cases h
   obtain⟨i',rfl,a⟩:=ru
   cases Zl rw
   simp only [Bool.and_eq_true,decide_eq_true_eq]at c
   exact⟨i',_,rfl,rfl,c.1,k _ ⟨_,rfl,QiX a c.1.1 c.2⟩⟩
  ·cases h
 ·cases h
theorem Qgn:OpS X T A .Mod:=QaZ Qik (fun _ _ _=>rfl) fun {α u w z v y H Q} h ru rw k=>by
 unfold Qer at h
 split at h
 ·split at h
  ·rename_i c
   cases h
   cases Zl ru
   cases Zl rw
   exact⟨_,_,rfl,rfl,c,k _ ⟨_,rfl,Cg.refl _ _⟩⟩
  ·cases h
 ·split at h
  ·rename_i c
   cases h
   obtain⟨i',rfl,a⟩:=ru
   cases Zl rw
   simp only [Bool.and_eq_true,decide_eq_true_eq]at c
   exact⟨i',_,rfl,rfl,c.1,k _ ⟨_,rfl,by rw [QiW a c.1 c.2];exact Cg.refl _ _⟩⟩
  ·cases h
 ·cases h
theorem Qgl:OpS X T A .Pow:=QaZ Qig (fun _ _ _=>rfl) fun {α u w z v y H Q} h ru rw k=>by
 unfold Qjl at h
 split at h
 ·split at h
  ·rename_i i j c
   cases h
   cases Zl ru
   cases Zl rw
   simp only [Bool.and_eq_true,decide_eq_true_eq]at c
   obtain⟨h1,h2⟩:=Zd c.2
   exact⟨_,_,rfl,rfl,⟨c.1.1,by lia,by lia⟩,k _ ⟨_,rfl,Cg.refl _ _⟩⟩
  ·cases h
 ·cases h
theorem Qgo:OpS X T A .Add:=by
 refine⟨_,OpR.or Qiq (OpR.or Qbs (OpR.or Qip (OpR.or Qel Qgj))),?_⟩
 intro α u w u' hs hs' v y H Q h ru rw R k
 have h:ZA u w hs=some (u',hs'):=h
 unfold ZA at h
 split at h
 ·cases h
  obtain⟨i',rfl,a⟩:=ru
  obtain⟨j',rfl,b⟩:=rw
  exact .inl ⟨i',j',rfl,rfl,k α _ H Ext.refl R ⟨_,rfl,Qfv a b⟩⟩
 ·split at h
  ·rename_i c
   cases h
   cases(show v=_ from ru)
   cases(show y=_ from rw)
   refine .inr (.inl ⟨_,_,rfl,rfl,?_,k α _ H Ext.refl R ?_⟩)
   ·rw [ZL,ZL];exact Nat.le_trans c big
   ·rw [QfM];rfl
  ·cases h
 ·rename_i a b
  obtain⟨pa,ha,rfl⟩:=ru
  obtain⟨pb,hb,rfl⟩:=rw
  split at h
  ·rename_i ox oy e1 e2
   have o1:=R.h.ob _ pa _ ha e1
   have o2:=R.h.ob _ pb _ hb e2
   unfold QlD at h
   split at h
   ·rename_i xs ys
    split at h
    ·rename_i c
     cases h
     obtain⟨vs,q1,r1⟩:=o1
     obtain⟨ws,q2,r2⟩:=o2
     refine .inr (.inr (.inl ⟨pa,pb,vs,ws,rfl,rfl,q1,q2,?_,fun p hp=>?_⟩))
     ·rw [<-r1.length,<-r2.length];exact Nat.le_trans c big
     ·obtain⟨R',E'⟩:=R.new (o:=.lst (xs++ys)) hp ⟨_,Qe,RUs.mono Qy (r1.append r2)⟩
      exact k _ _ _ E' R' ⟨p,by rw [<-R.h.len];exact QH,rfl⟩
    ·cases h
   ·rename_i xs ys
    obtain⟨vs,q1,r1⟩:=o1
    obtain⟨ws,q2,r2⟩:=o2
    split at h
    ·rename_i z
     cases h
     have z:=List.isEmpty_iff.mp z
     subst z
     cases r1
     exact .inr (.inr (.inr (.inl ⟨pa,pb,ws,rfl,rfl,SqT.of q1,SqT.of q2,k α _ H Ext.refl R ⟨pb,hb,rfl⟩⟩)))
    ·rename_i nx
     have nv:vs≠[]:=fun z=>nx (by rw [z]at r1;cases r1;rfl)
     split at h
     ·rename_i c
      have sz:vs.length+ws.length<=sizeLine:=by
       rw [<-r1.length,<-r2.length]
       exact Nat.le_trans c big
      split at h
      ·rename_i z
       cases h
       have z:=List.isEmpty_iff.mp z
       subst z
       cases r2
       exact .inr (.inr (.inr (.inr ⟨pa,pb,vs,[],rfl,rfl,SqT.of q1,SqT.of q2,nv,sz,fun _=>k α _ H Ext.refl R ⟨pa,ha,rfl⟩,fun z=>absurd rfl z⟩)))
      ·rename_i ny
       cases h
       refine .inr (.inr (.inr (.inr ⟨pa,pb,vs,ws,rfl,rfl,SqT.of q1,SqT.of q2,nv,sz,fun z=>absurd (by rw [z]at r2;cases r2;rfl) ny,fun _ p hp=>?_⟩)))
       obtain⟨R',E'⟩:=R.new (o:=.tup (xs++ys)) hp ⟨_,Qe,RUs.mono Qy (r1.append r2)⟩
       exact k _ _ _ E' R' ⟨p,by rw [<-R.h.len];exact QH,rfl⟩
     ·cases h
   ·cases h
  ·cases h
 ·cases h
theorem opS(o:Operator):OpS X T A o:=by
 cases o with
 | Add=>exact Qgo
 | Sub=>exact Qgk
 | Mult=>exact Qgm
 | FloorDiv=>exact Qen
 | Mod=>exact Qgn
 | Pow=>exact Qgl
 | _=>exact Qem fun u w hs=>rfl
end
end Iv
namespace Iv
open PySem PySem.Spec PyProof.Rows L2
section
variable {X:Cx}{T:Tbl}{A:Adr}{α:List Addr}{hs:Hs}{H:Hp}{u w:U}{v y:V}
theorem Ze{xs:List U}(tx:Txt T A X.K X.mg)(R:Rep T A X.K α hs H)(h:Zb T u hs=some xs)(r:RU A α u v):∃a vs,v=.ref a/\RUs A α xs vs/\SqL X.K H a vs:=by
 cases u with
 | ref n =>
  obtain⟨a,ha,rfl⟩:=r
  simp only [Zb]at h
  split at h
  ·rename_i ys e
   cases h
   obtain⟨vs,q,rr⟩:=R.h.ob n a _ ha e
   exact⟨a,vs,rfl,rr,SqL.of q⟩
  ·cases h
 | con k =>
  simp only [Zb]at h
  split at h
  ·rename_i ys e
   cases h
   obtain⟨vs,rr,q⟩:=tx.co k _ e
   exact⟨_,vs,r,RUs.mono (fun n a e=>by simp at e) rr,q H⟩
  ·cases h
 | scr =>
  simp only [Zb]at h
  cases h
  obtain⟨vs,rr,q⟩:=R.s.sq (α:=α)
  exact⟨_,vs,r,rr,q⟩
 | _=>simp [Zb]at h
theorem Yo{xs:List U}(tx:Txt T A X.K X.mg)(R:Rep T A X.K α hs H)(h:Yb T u hs=some xs)(r:RU A α u v):∃a vs,v=.ref a/\RUs A α xs vs/\SqT X.K H a vs:=by
 cases u with
 | ref n =>
  obtain⟨a,ha,rfl⟩:=r
  simp only [Yb]at h
  split at h
  ·rename_i ys e
   cases h
   obtain⟨vs,q,rr⟩:=R.h.ob n a _ ha e
   exact⟨a,vs,rfl,rr,SqT.of q⟩
  ·cases h
 | con k =>
  simp only [Yb]at h
  split at h
  ·rename_i ys e
   cases h
   obtain⟨vs,rr,q⟩:=tx.co k _ e
   exact⟨_,vs,r,RUs.mono (fun n a e=>by simp at e) rr,q H⟩
  ·cases h
 | _=>simp [Yb]at h
noncomputable def scP:U->PyData
 | .bl b=>.bool b
 | .int i _=>.int i
 | .str x=>.str ⟨x.toArray⟩
 | _=>.none
noncomputable def toP(T:Tbl):Nat->U->Hs->PyData
 | 0,_,_=>.none
 | n+1,u,hs=>match Zb T u hs with
  | some xs=>.list (xs.map fun x=>toP T n x hs)
  | none=>match Yb T u hs with
   | some xs=>.tuple (xs.map fun x=>toP T n x hs)
   | none=>scP u
theorem Yr{h:Heap}{f:U->PyData}:∀{xs:List U} {vs:List V} {its:List Value},RUs A α xs vs->Vals vs its->(∀x∈xs,∀v u,RU A α x v->RelV v u->∃as,Reads h u (f x) as)->∃as,ReadsAll h its (xs.map f) as
 | _,_,_,.nil,.nil,_=>⟨[],.nil⟩
 | _,_,_,.cons (a:=x) r t,.cons q p,k=>by
  obtain⟨as,h1⟩:=k x List.mem_cons_self _ _ r q
  obtain⟨bs,h2⟩:=Yr t p fun x m=>k x (List.mem_cons_of_mem _ m)
  exact⟨as++bs,.cons h1 h2⟩
theorem ZS{pins:List (Addr×Obj)}{s:Shared}{σ:L2.St}(tx:Txt T A X.K X.mg)(I:Inv X pins σ H s)(R:Rep T A X.K α hs H):∀(n:Nat) {u:U} {v:V} {z:Value},okW T n u hs=true->RU A α u v->RelV v z->∃as,Reads s.heap z (toP T n u hs) as
 | 0,_,_,_,h,_,_=>by cases h
 | n+1,u,v,z,h,r,q=>by
  have ih:=fun {u:U} {v:V} {z:Value}=>ZS tx I R n (u:=u) (v:=v) (z:=z)
  simp only [okW,toP]at h ⊢
  cases el:Zb T u hs with
  | some xs =>
   rw [el]at h
   have h:=List.all_eq_true.mp h
   obtain⟨a,vs,rfl,rr,sq⟩:=Ze tx R el r
   cases q
   obtain⟨its,rv,pl,_⟩:=I.list sq
   obtain⟨o,ho,hc,m,hd⟩:=pl.isList
   obtain⟨as,ra⟩:=Yr (h:=s.heap) (f:=fun x=>toP T n x hs) rr rv fun x m v u h1 h2=>ih (h x m) h1 h2
   exact⟨_,.list ho hc hd ra⟩
  | none =>
   rw [el]at h
   cases et:Yb T u hs with
   | some xs =>
    rw [et]at h
    have h:=List.all_eq_true.mp h
    obtain⟨a,vs,rfl,rr,sq⟩:=Yo tx R et r
    cases q
    obtain⟨its,rv,pl,_⟩:=I.tuple sq
    obtain⟨o,ho,hc,m,hd⟩:=pl
    obtain⟨as,ra⟩:=Yr (h:=s.heap) (f:=fun x=>toP T n x hs) rr rv fun x m v u h1 h2=>ih (h x m) h1 h2
    exact⟨_,.tuple ho hc hd ra⟩
   | none =>
    rw [et]at h
    cases u with
    | non=>cases(show v=_ from r);cases q;exact⟨[],.none⟩
    | bl b=>cases(show v=_ from r);cases q;exact⟨[],.bool b⟩
    | int i m =>
     have h:(m==0)=true:=h
     have h:=eq_of_beq h
     subst h
     cases Zl r
     obtain⟨t,rfl⟩:=q
     exact⟨[],.int i t⟩
    | str x=>cases(show v=_ from r);obtain⟨t,rfl⟩:=q;exact⟨[],.str _ t⟩
    | _=>cases h
theorem Qao{f:U->PyData}{n:Nat}:∀{xs:List U},(∀x∈xs,(f x).canLay0=true/\(f x).depth<=n)->PyData.canLayAll0 (xs.map f)=true/\PyData.depthAll (xs.map f)<=n
 | [],_=>⟨rfl,Nat.zero_le _⟩
 | x::r,h=>by
  obtain⟨h1,h2⟩:=h x List.mem_cons_self
  obtain⟨h3,h4⟩:=Qao (xs:=r) fun y m=>h y (List.mem_cons_of_mem _ m)
  refine⟨?_,?_⟩
  ·show((f x).canLay0&&PyData.canLayAll0 (r.map f))=true
   rw [h1,h3]
   rfl
  ·show max (f x).depth (PyData.depthAll (r.map f))<=n
   lia
theorem JI:∀(n:Nat) {u:U},okW T n u hs=true->(toP T n u hs).canLay0=true/\(toP T n u hs).depth<=n
 | 0,_,h=>by cases h
 | n+1,u,h=>by
  have ih:=fun(u:U)=>JI n (u:=u)
  simp only [okW,toP]at h ⊢
  cases el:Zb T u hs with
  | some xs =>
   rw [el]at h
   obtain⟨h1,h2⟩:=Qao (f:=fun x=>toP T n x hs) (n:=n) fun x m=>ih x (List.all_eq_true.mp h x m)
   exact⟨h1,Nat.succ_le_succ h2⟩
  | none =>
   rw [el]at h
   cases et:Yb T u hs with
   | some xs =>
    rw [et]at h
    obtain⟨h1,h2⟩:=Qao (f:=fun x=>toP T n x hs) (n:=n) fun x m=>ih x (List.all_eq_true.mp h x m)
    exact⟨h1,Nat.succ_le_succ h2⟩
   | none =>
    rw [et]at h
    cases u with
    | str x =>
     refine⟨?_,Nat.zero_le _⟩
     show PyData.strOk ⟨x.toArray⟩=true
     unfold PyData.strOk
     have h:=List.all_eq_true.mp h
     rw [Array.all_eq_true']
     intro c hc
     have:=of_decide_eq_true (h c (by simpa using hc))
     exact decide_eq_true (by lia)
    | non=>exact⟨rfl,Nat.zero_le _⟩
    | bl b=>exact⟨rfl,Nat.zero_le _⟩
    | int i m=>exact⟨rfl,Nat.zero_le _⟩
    | _=>cases h
theorem Qaz{f:U->PyData}{g:U->U->Bool}:∀{xs ys:List U},(∀x∈xs,∀y∈ys,PyData.eqv (f x) (f y)=g x y)->PyData.eqvAll (xs.map f) (ys.map f)=((xs.length==ys.length)&&(xs.zip ys).all fun p=>g p.1 p.2)
 | [],[],_=>rfl
 | [],_::_,_=>rfl
 | _::_,[],_=>rfl
 | x::r,y::t,h=>by
  have h1:=h x List.mem_cons_self y List.mem_cons_self
  have h2:=Qaz (xs:=r) (ys:=t) fun a ma b mb=>h a (List.mem_cons_of_mem _ ma) b (List.mem_cons_of_mem _ mb)
  show(PyData.eqv (f x) (f y)&&PyData.eqvAll (r.map f) (t.map f))=_
  rw [h1,h2]
  simp only [List.length_cons,List.zip_cons_cons,List.all_cons]
  have e:(r.length+1==t.length+1)=(r.length==t.length):=by simp
  rw [e]
  cases g x y<;>cases(r.length==t.length)<;>simp
theorem QfL{x y:List Nat}:((⟨x.toArray⟩:Str)==⟨y.toArray⟩)=(x==y):=by
 by_cases h:x=y
 ·subst h;simp
 ·have:(⟨x.toArray⟩:Str)≠⟨y.toArray⟩:=fun z=>h (by
   have:=congrArg (fun s:Str=>s.cps.toList) z
   simpa using this)
  rw [beq_eq_false_iff_ne.mpr this,beq_eq_false_iff_ne.mpr h]
theorem Qc8:∀(n:Nat) {u w:U},okW T n u hs=true->okW T n w hs=true->PyData.eqv (toP T n u hs) (toP T n w hs)=eqW T n u w hs
 | 0,_,_,h,_=>by cases h
 | n+1,u,w,h,h'=>by
  have ih:=fun(u w:U)=>Qc8 n (u:=u) (w:=w)
  simp only [okW,toP,eqW]at h h' ⊢
  cases el:Zb T u hs with
  | some xs =>
   rw [el]at h
   cases el':Zb T w hs with
   | some ys =>
    rw [el']at h'
    exact Qaz (g:=fun a b=>eqW T n a b hs) fun x mx y my=>ih x y (List.all_eq_true.mp h x mx) (List.all_eq_true.mp h' y my)
   | none =>
    rw [el']at h'
    cases et':Yb T w hs with
    | some ys=>rfl
    | none=>rw [et']at h';cases w<;>first | rfl | (cases h';done)
  | none =>
   rw [el]at h
   cases et:Yb T u hs with
   | some xs =>
    rw [et]at h
    cases el':Zb T w hs with
    | some ys=>rfl
    | none =>
     rw [el']at h'
     cases et':Yb T w hs with
     | some ys =>
      rw [et']at h'
      exact Qaz (g:=fun a b=>eqW T n a b hs) fun x mx y my=>ih x y (List.all_eq_true.mp h x mx) (List.all_eq_true.mp h' y my)
     | none=>rw [et']at h';cases w<;>first | rfl | (cases h';done)
   | none =>
    rw [et]at h
    cases el':Zb T w hs with
    | some ys=>cases u<;>first | rfl | (cases h;done)
    | none =>
     rw [el']at h'
     cases et':Yb T w hs with
     | some ys=>cases u<;>first | rfl | (cases h;done)
     | none =>
      rw [et']at h'
      cases u<;>first | (cases h;done) | (cases w<;>first | (cases h';done) | rfl | exact QfL)
noncomputable def Qlj(T:Tbl)(A:Adr)(K:PySem.W.Frag)(neg:Bool):R2:=fun x y H Q=>∃α u w hs,RU A α u x/\RU A α w y/\Rep T A K α hs H/\okW T 20 u hs=true/\okW T 20 w hs=true/\Q (.bl (if neg then !(eqW T 20 u w hs)else eqW T 20 u w hs)) H
theorem ZR{d:PyData}{n:Nat}(h:d.canLay0=true/\d.depth<=n)(hn:n<=64):SeqAt.shaped d=true:=by
 unfold SeqAt.shaped
 rw [h.1,Bool.true_and]
 exact decide_eq_true (Nat.le_trans h.2 hn)
theorem Qio(tx:Txt T A X.K X.mg)(hu:X.A.units+64<cLine):OpR X (compareOp .Eq) (Qlj T A X.K false):=by
 intro pins s σ H x y v u Q I rx ry h
 obtain⟨α,u1,w1,hs,r1,r2,R,o1,o2,q⟩:=h
 obtain⟨as,ra⟩:=ZS tx I R 20 o1 r1 rx
 obtain⟨bs,rb⟩:=ZS tx I R 20 o2 r2 ry
 refine eq_dataH ra rb (ZR (JI 20 o1) (by decide)) (ZR (JI 20 o2) (by decide)) hu ?_
 rw [Qc8 20 o1 o2]
 exact⟨.bl _,H,I,rfl,q⟩
noncomputable def Qlf(T:Tbl)(A:Adr)(K:PySem.W.Frag)(b:Bool):R2:=fun x y H Q=>∃α u w hs,RU A α u x/\RU A α w y/\Rep T A K α hs H/\JH T u w hs=true/\Q (.bl b) H
theorem Qa3{pins:List (Addr×Obj)}{s:Shared}{σ:L2.St}{H:Hp}{α:List Addr}{hs:Hs}{u w:U}{x y:V}{v z:Value}(tx:Txt T A X.K X.mg)(I:Inv X pins σ H s)(R:Rep T A X.K α hs H)(h:JH T u w hs=true)(r1:RU A α u x)(r2:RU A α w y)(rx:RelV x v)(ry:RelV y z):
  ∃(a b:Addr) (i1 i2:List Value),v=.ref a/\z=.ref b/\s.heap.IsList a i1.toArray/\s.heap.IsList b i2.toArray/\(i1.toArray.size != i2.toArray.size)=true:=by
 unfold JH at h
 split at h
 ·rename_i xs ys e1 e2
  obtain⟨a,vs,rfl,rr,sq⟩:=Ze tx R e1 r1
  obtain⟨b,ws,rfl,rr',sq'⟩:=Ze tx R e2 r2
  obtain⟨i1,q1,p1,_⟩:=I.list sq
  obtain⟨i2,q2,p2,_⟩:=I.list sq'
  cases rx
  cases ry
  have l1:=rr.length
  have l2:=rr'.length
  have l3:=q1.length
  have l4:=q2.length
  have h:=of_decide_eq_true h
  refine⟨a,b,i1,i2,rfl,rfl,p1.isList,p2.isList,?_⟩
  simp only [List.size_toArray,bne_iff_ne,ne_eq]
  lia
 ·cases h
theorem Qin(tx:Txt T A X.K X.mg)(hu:X.A.units+64<cLine):OpR X (compareOp .Eq) (Qlf T A X.K false):=by
 intro pins s σ H x y v u Q I rx ry h
 obtain⟨α,u1,w1,hs,r1,r2,R,o1,q⟩:=h
 obtain⟨a,b,i1,i2,rfl,rfl,p1,p2,z⟩:=Qa3 tx I R o1 r1 r2 rx ry
 exact SeqAt.RcAt.lists_lengths p1 p2 z (by lia) _ _ _ _ ⟨.bl _,H,I,rfl,q⟩
theorem Qii(tx:Txt T A X.K X.mg)(hu:X.A.units+64<cLine):OpR X (compareOp .NotEq) (Qlf T A X.K true):=by
 intro pins s σ H x y v u Q I rx ry h
 obtain⟨α,u1,w1,hs,r1,r2,R,o1,q⟩:=h
 obtain⟨a,b,i1,i2,rfl,rfl,p1,p2,z⟩:=Qa3 tx I R o1 r1 r2 rx ry
 exact SeqAt.RcNeAt.lists_lengths p1 p2 z (by lia) _ _ _ _ ⟨.bl _,H,I,rfl,q⟩
noncomputable def QhU(T:Tbl)(A:Adr)(K:PySem.W.Frag)(b:Bool):R2:=fun x y H Q=>∃α u w hs,RU A α u x/\RU A α w y/\Rep T A K α hs H/\Qb4 T u w hs=true/\Q (.bl b) H
theorem ZJ{α:List Addr}:∀{xs:List U} {vs ws:List V} {i1 i2:List Value},(xs.all fun x=>match x with | .ref _=>true | _=>false)=true->RUs A α xs vs->RUs A α xs ws->Vals vs i1->Vals ws i2->i1=i2
 | [],_,_,_,_,_,r1,r2,q1,q2=>by cases r1;cases r2;cases q1;cases q2;rfl
 | x::xs,_,_,_,_,h,.cons a r1,.cons b r2,.cons c q1,.cons d q2=>by
  rw [List.all_cons,Bool.and_eq_true]at h
  cases x with
  | ref n =>
   obtain⟨p,hp,rfl⟩:=a
   obtain⟨p',hp',rfl⟩:=b
   rw [hp]at hp'
   cases hp'
   cases c
   cases d
   rw [ZJ h.2 r1 r2 q1 q2]
  | _=>exact absurd h.1 (by simp)
theorem QaO{pins:List (Addr×Obj)}{s:Shared}{σ:L2.St}{H:Hp}{α:List Addr}{hs:Hs}{u w:U}{x y:V}{v z:Value}(tx:Txt T A X.K X.mg)(I:Inv X pins σ H s)(R:Rep T A X.K α hs H)(h:Qb4 T u w hs=true)(r1:RU A α u x)(r2:RU A α w y)(rx:RelV x v)(ry:RelV y z):
  ∃(a b:Addr) (i1:List Value),v=.ref a/\z=.ref b/\s.heap.IsList a i1.toArray/\s.heap.IsList b i1.toArray:=by
 unfold Qb4 at h
 split at h
 ·rename_i xs ys e1 e2
  rw [Bool.and_eq_true]at h
  obtain⟨h0,h⟩:=h
  have h0:=of_decide_eq_true h0
  subst h0
  obtain⟨a,vs,rfl,rr,sq⟩:=Ze tx R e1 r1
  obtain⟨b,ws,rfl,rr',sq'⟩:=Ze tx R e2 r2
  obtain⟨i1,q1,p1,_⟩:=I.list sq
  obtain⟨i2,q2,p2,_⟩:=I.list sq'
  cases rx
  cases ry
  cases ZJ h rr rr' q1 q2
  exact⟨a,b,i1,rfl,rfl,p1.isList,p2.isList⟩
 ·cases h
theorem Qim(tx:Txt T A X.K X.mg)(hu:X.A.units+64<cLine):OpR X (compareOp .Eq) (QhU T A X.K true):=by
 intro pins s σ H x y v u Q I rx ry h
 obtain⟨α,u1,w1,hs,r1,r2,R,o1,q⟩:=h
 obtain⟨a,b,i1,rfl,rfl,p1,p2⟩:=QaO tx I R o1 r1 r2 rx ry
 have rc:=SeqAt.RcAt.lists (A:=X.A) (e:=fun _=>true) p1 p2 rfl (by lia) fun j h1 h2=>SeqAt.EqAt.same _
 have al:(List.range i1.toArray.size).all (fun _=>true)=true:=by simp
 rw [al]at rc
 exact rc _ _ _ _ ⟨.bl _,H,I,rfl,q⟩
theorem Qih(tx:Txt T A X.K X.mg)(hu:X.A.units+64<cLine):OpR X (compareOp .NotEq) (QhU T A X.K false):=by
 intro pins s σ H x y v u Q I rx ry h
 obtain⟨α,u1,w1,hs,r1,r2,R,o1,q⟩:=h
 obtain⟨a,b,i1,rfl,rfl,p1,p2⟩:=QaO tx I R o1 r1 r2 rx ry
 have rc:=SeqAt.RcNeAt.lists (A:=X.A) (e:=fun _=>true) p1 p2 rfl (by lia) fun j h1 h2=>SeqAt.EqAt.same _
 have al:(!(List.range i1.toArray.size).all (fun _=>true))=false:=by simp
 rw [al]at rc
 exact rc _ _ _ _ ⟨.bl _,H,I,rfl,q⟩
theorem Qij(tx:Txt T A X.K X.mg)(hu:X.A.units+64<cLine):OpR X (compareOp .NotEq) (Qlj T A X.K true):=by
 intro pins s σ H x y v u Q I rx ry h
 obtain⟨α,u1,w1,hs,r1,r2,R,o1,o2,q⟩:=h
 obtain⟨as,ra⟩:=ZS tx I R 20 o1 r1 rx
 obtain⟨bs,rb⟩:=ZS tx I R 20 o2 r2 ry
 refine ne_dataH ra rb (ZR (JI 20 o1) (by decide)) (ZR (JI 20 o2) (by decide)) hu ?_
 rw [Qc8 20 o1 o2]
 exact⟨.bl _,H,I,rfl,q⟩
end
end Iv
namespace Iv
open PySem PySem.Spec PyProof.Rows L2
section
variable {κ κ':Type}[DecidableEq κ][DecidableEq κ']{P:κ->κ'->Prop}{A:Adr}{α:List Addr}{w:κ}{k:κ'}{u:U}{v:V}
noncomputable abbrev RG(P:κ->κ'->Prop)(A:Adr)(α:List Addr):List (κ×U)->List (κ'×V)->Prop:=Paired fun p q=>P p.1 q.1/\RU A α p.2 q.2
noncomputable def Inj(P:κ->κ'->Prop):Prop:=∀a b k l,P a k->P b l->(a=b↔k=l)
theorem RG.look(inj:Inj P)(hk:P w k):∀{kvs:List (κ×U)} {kv:List (κ'×V)},RG P A α kvs kv->(Yv kvs w=none/\Y4 kv k=none)\/∃u v,Yv kvs w=some u/\Y4 kv k=some v/\RU A α u v
 | _,_,.nil=>.inl ⟨rfl,rfl⟩
 | _,_,.cons (a:=p) (b:=q) r t=>by
  by_cases h:p.1=w
  ·have h':q.1=k:=(inj _ _ _ _ r.1 hk).mp h
   exact .inr ⟨p.2,q.2,by simp [Yv,List.find?_cons,h],by simp [Y4,List.find?_cons,h'],r.2⟩
  ·have h':¬q.1=k:=fun z=>h ((inj _ _ _ _ r.1 hk).mpr z)
   have ih:=RG.look inj hk t
   have e1:∀l,Yv (p::l) w=Yv l w:=fun l=>by simp [Yv,List.find?_cons,h]
   have e2:∀l,Y4 (q::l) k=Y4 l k:=fun l=>by simp [Y4,List.find?_cons,h']
   rw [e1,e2]
   exact ih
theorem RG.any(inj:Inj P)(hk:P w k):∀{kvs:List (κ×U)} {kv:List (κ'×V)},RG P A α kvs kv->(kvs.any fun p=>decide (p.1=w))=(kv.any fun p=>decide (p.1=k))
 | _,_,.nil=>rfl
 | _,_,.cons (a:=p) (b:=q) r t=>by
  rw [List.any_cons,List.any_cons,RG.any inj hk t,decide_eq_decide.mpr (inj _ _ _ _ r.1 hk)]
theorem RG.repl(inj:Inj P)(hk:P w k)(ru:RU A α u v):∀{kvs:List (κ×U)} {kv:List (κ'×V)},RG P A α kvs kv->RG P A α (kvs.map fun p=>if p.1=w then(p.1,u)else p) (kv.map fun p=>if p.1=k then(p.1,v)else p)
 | _,_,.nil=>.nil
 | _,_,.cons (a:=p) (b:=q) r t=>by
  refine .cons ?_ (RG.repl inj hk ru t)
  by_cases h:p.1=w
  ·have h':=(inj _ _ _ _ r.1 hk).mp h
   simp only [h,h',if_true]
   exact⟨hk,ru⟩
  ·have h':¬q.1=k:=fun z=>h ((inj _ _ _ _ r.1 hk).mpr z)
   simp only [h,h',if_false]
   exact r
theorem RG.put(inj:Inj P)(hk:P w k)(ru:RU A α u v){kvs:List (κ×U)}{kv:List (κ'×V)}(r:RG P A α kvs kv):RG P A α (QfX kvs w u) (Qca kv k v):=by
 unfold QfX Qca
 rw [RG.any inj hk r]
 split
 ·exact RG.repl inj hk ru r
 ·exact Paired.snoc r ⟨hk,ru⟩
theorem RG.merge(inj:Inj P){more:List (κ×U)}{mv:List (κ'×V)}(m:RG P A α more mv):∀{kvs:List (κ×U)} {kv:List (κ'×V)},RG P A α kvs kv->RG P A α (more.foldl (fun acc p=>QfX acc p.1 p.2) kvs) (mv.foldl (fun acc p=>Qca acc p.1 p.2) kv):=by
 induction m with
 | nil=>intro _ _ r;exact r
 | cons q _ ih=>intro _ _ r;exact ih (RG.put inj q.1 q.2 r)
end
theorem Qbc:Inj RK:=fun a b k l h h'=>by
 cases a<;>cases b<;>simp only [RK]at h h'<;>first | exact h.elim | exact h'.elim | skip
 ·obtain⟨rfl,rfl⟩:=h;obtain⟨rfl,rfl⟩:=h';simp
 ·obtain⟨rfl,rfl⟩:=h;subst h';simp
 ·subst h;obtain⟨rfl,rfl⟩:=h';simp
 ·subst h h';simp
theorem QcV:Inj RKs:=fun a b k l h=>by
 induction h generalizing b l with
 | nil =>
  intro h'
  cases h' with
  | nil=>simp
  | cons=>simp
 | cons p t ih =>
  intro h'
  cases h' with
  | nil=>simp
  | cons q t' =>
   have i1:=Qbc _ _ _ _ p q
   have i2:=ih _ _ t'
   simp only [List.cons.injEq,i1,i2]
section
variable {X:Cx}{T:Tbl}{A:Adr}{K:PySem.W.Frag}{α:List Addr}{hs:Hs}{H:Hp}{n:Nat}{a:Addr}{o:O}{w:U}{y:V}
theorem QcJ(hk:Qbx w=true)(r:RU A α w y):∃k,RK w k/\y=kV k:=by
 cases w with
 | int i m =>
  cases m with
  | zero=>obtain⟨j,rfl,c⟩:=r;cases c.exact;exact⟨Sum.inl i,⟨rfl,rfl⟩,rfl⟩
  | succ m=>cases hk
 | str x=>cases(show y=_ from r);exact⟨Sum.inr _,rfl,rfl⟩
 | _=>cases hk
theorem QcI:∀{ks:List U} {vs:List V},ks.all Qbx=true->RUs A α ks vs->∃k,RKs ks k/\vs=k.map kV
 | _,_,_,.nil=>⟨[],.nil,rfl⟩
 | _,_,h,.cons r t=>by
  rw [List.all_cons,Bool.and_eq_true]at h
  obtain⟨k,h1,rfl⟩:=QcJ h.1 r
  obtain⟨ks,h2,rfl⟩:=QcI h.2 t
  exact⟨k::ks,.cons h1 h2,rfl⟩
theorem Qhm{t:List U}(R:Rep T A K α hs H)(h:tkU w hs=some t)(r:RU A α w y):∃b k,y=.ref b/\RKs t k/\H b=some (.tup (k.map kV)):=by
 cases w with
 | ref m =>
  obtain⟨b,hb,rfl⟩:=r
  simp only [tkU]at h
  split at h
  ·rename_i ks e
   split at h
   ·rename_i c
    cases h
    obtain⟨vs,e1,rr⟩:=R.h.ob m b _ hb e
    obtain⟨k,rk,rfl⟩:=QcI c rr
    exact⟨b,k,rfl,rk,e1⟩
   ·cases h
  ·cases h
 | _=>cases h
theorem Qdb{r:Option U}(R:Rep T A K α hs H)(ho:hs[n]?=some o)(ha:α[n]?=some a)(h:QaB o w hs=some r)(rw':RU A α w y):(r=none/\DGet H a y none)\/∃u v,r=some u/\DGet H a y (some v)/\RU A α u v:=by
 cases o with
 | dic kvs =>
  obtain⟨kv,e,rd⟩:=R.h.ob n a _ ha ho
  simp only [QaB]at h
  split at h
  ·rename_i c
   cases h
   obtain⟨k,rk,rfl⟩:=QcJ c rw'
   have g:=DGet.k (k:=k) e
   rcases RG.look Qbc rk rd with⟨h1,h2⟩ | ⟨u,v,h1,h2,h3⟩
   ·rw [h2]at g;exact .inl ⟨h1,g⟩
   ·rw [h2]at g;exact .inr ⟨u,v,h1,g,h3⟩
  ·cases h
 | fzd kvs =>
  obtain⟨kv,ob,e,rd⟩:=R.h.ob n a _ ha ho
  simp only [QaB]at h
  split at h
  ·rename_i c
   cases h
   obtain⟨k,rk,rfl⟩:=QcJ c rw'
   have g:DGet H a (kV k) (Y4 kv k):=.inl ⟨kv,k,.inr ⟨ob,e⟩,rfl,rfl⟩
   rcases RG.look Qbc rk rd with⟨h1,h2⟩ | ⟨u,v,h1,h2,h3⟩
   ·rw [h2]at g;exact .inl ⟨h1,g⟩
   ·rw [h2]at g;exact .inr ⟨u,v,h1,g,h3⟩
  ·cases h
 | dct kvs =>
  obtain⟨kv,e,rd⟩:=R.h.ob n a _ ha ho
  simp only [QaB,Option.map_eq_some_iff]at h
  obtain⟨t,ht,rfl⟩:=h
  obtain⟨b,k,rfl,rk,hb⟩:=Qhm R ht rw'
  have g:=DGet.t e hb
  rcases RG.look QcV rk rd with⟨h1,h2⟩ | ⟨u,v,h1,h2,h3⟩
  ·rw [h2]at g;exact .inl ⟨h1,g⟩
  ·rw [h2]at g;exact .inr ⟨u,v,h1,g,h3⟩
 | fzt kvs =>
  obtain⟨kv,ob,e,rd⟩:=R.h.ob n a _ ha ho
  simp only [QaB,Option.map_eq_some_iff]at h
  obtain⟨t,ht,rfl⟩:=h
  obtain⟨b,k,rfl,rk,hb⟩:=Qhm R ht rw'
  have g:DGet H a (.ref b) (Y4 kv k):=.inr ⟨kv,k,b,.inr ⟨ob,e⟩,rfl,hb,rfl⟩
  rcases RG.look QcV rk rd with⟨h1,h2⟩ | ⟨u,v,h1,h2,h3⟩
  ·rw [h2]at g;exact .inl ⟨h1,g⟩
  ·rw [h2]at g;exact .inr ⟨u,v,h1,g,h3⟩
 | _=>cases h
noncomputable def Qj9:R2:=fun x y H Q=>∃a v,x=.ref a/\DGet H a y (some v)/\Q v H
theorem Qgx(hu:X.A.units+1<cLine):IxR X Qj9:=by
 intro value slice pins s σ H x y v u Q I rx ry h hs
 obtain⟨a,z,rfl,g,q⟩:=h
 obtain rfl:v=Value.ref a:=rx
 have hT:=QaA I g
 unfold subscriptTail
 refine wpAny_bind ?_
 rw [getitemInPython_of_ne hT.not_modules]
 refine wpAny_bind (wpAny_specialOf hT PySem.F.slot_dict_getitem.lookup ?_)
 have fin:wpAny (model X.prog X.w) X.A (subscripted slice false (.ref a) u) (fun r s₃=>wpAny (model X.prog X.w) X.A (letTemporaryGo value (.ref a) r >>= fun _=>pure r) (EP X pins σ Q) X.xe s₃) X.xe s:=by
  rw [hs]
  exact wpAny_operating (Qdf hu I g ry fun w' s3 I3 rw'=>wpAny_bind (wpAny_letTemporaryGo (wpAny_pure ⟨z,H,I3,rw',q⟩)))
 first
  | exact wpAny_pure (wpAny_bind fin)
  | exact wpAny_bind (wpAny_pure (wpAny_bind fin))
  | exact wpAny_bind fin
noncomputable def Qka(neg:Bool):R2:=fun x y H Q=>∃a o,y=.ref a/\DGet H a x o/\Q (.bl (if neg then !o.isSome else o.isSome)) H
theorem Qil(hu:X.A.units+1<cLine):OpR X (compareOp .In) (Qka false):=by
 intro pins s σ H x y v u Q I rx ry h
 obtain⟨a,o,rfl,g,q⟩:=h
 obtain rfl:u=Value.ref a:=ry
 exact Qmo hu I g rx fun s3 I3=>⟨.bl o.isSome,H,I3,rfl,q⟩
theorem Qct(hu:X.A.units+1<cLine):OpR X (compareOp .NotIn) (Qka true):=by
 intro pins s σ H x y v u Q I rx ry h
 obtain⟨a,o,rfl,g,q⟩:=h
 obtain rfl:u=Value.ref a:=ry
 exact QgQ hu I g rx fun s3 I3=>⟨.bl (!o.isSome),H,I3,rfl,q⟩
theorem Qfl{u w:U}{v y:V}{c neg:Bool}{Q:VK}(R:Rep T A K α hs H)(h:inD T w u hs=some c)(ru:RU A α u v)(rw':RU A α w y)(q:Q (.bl (if neg then !c else c)) H):Qka neg v y H Q\/Qji T w u=some c:=by
 unfold inD at h
 split at h
 ·rename_i n
  split at h
  ·rename_i o e
   simp only [Option.map_eq_some_iff]at h
   obtain⟨r,h1,rfl⟩:=h
   obtain⟨a,ha,rfl⟩:=rw'
   rcases Qdb R e ha h1 ru with⟨rfl,g⟩ | ⟨u',v',rfl,g,_⟩
   ·exact .inl ⟨a,none,rfl,g,q⟩
   ·exact .inl ⟨a,some v',rfl,g,q⟩
  ·cases h
 ·exact .inr h
end
end Iv
namespace Iv
open PySem PySem.Spec PyProof.Rows L2
section
variable {X:Cx}{T:Tbl}{A:Adr}
theorem QkR{i j:Int}:decide (V.int i=V.int j)=decide (i=j):=by
 by_cases e:i=j
 ·subst e;simp
 ·have:¬V.int i=V.int j:=fun q=>e (V.int.inj q)
  rw [decide_eq_false this,decide_eq_false e]
theorem QkQ{x y:List Nat}:decide (V.str ⟨x.toArray⟩=V.str ⟨y.toArray⟩)=decide (x=y):=by
 by_cases e:x=y
 ·subst e;simp
 ·have:¬V.str ⟨x.toArray⟩=V.str ⟨y.toArray⟩:=fun q=>e (by
   have q1:=V.str.inj q
   have q2:=congrArg (fun s:Str=>s.cps.toList) q1
   simpa using q2)
  rw [decide_eq_false this,decide_eq_false e]
theorem QkS{x y:Bool}:decide (V.bl x=V.bl y)=decide (x=y):=by cases x<;>cases y<;>rfl
theorem Qfq{α:List Addr}{u w:U}{v y:V}{c:Bool}(h:eqS u w=some c)(ru:RU A α u v)(rw':RU A α w y):scal v y=true/\decide (v=y)=c:=by
 cases u with
 | non =>
  cases(show v=_ from ru)
  cases w with
  | non=>cases(show y=_ from rw');cases h;exact⟨rfl,rfl⟩
  | bl b=>cases(show y=_ from rw');cases h;exact⟨rfl,rfl⟩
  | int j n=>obtain⟨_,rfl,_⟩:=rw';cases h;exact⟨rfl,rfl⟩
  | str x=>cases(show y=_ from rw');cases h;exact⟨rfl,rfl⟩
  | _=>exact nomatch (show(none:Option Bool)=some _ from h)
 | bl b =>
  cases(show v=_ from ru)
  cases w with
  | non=>cases(show y=_ from rw');cases h;exact⟨rfl,rfl⟩
  | bl b=>cases(show y=_ from rw');cases h;exact⟨rfl,QkS⟩
  | str x=>cases(show y=_ from rw');cases h;exact⟨rfl,rfl⟩
  | _=>exact nomatch (show(none:Option Bool)=some _ from h)
 | str x =>
  cases(show v=_ from ru)
  cases w with
  | non=>cases(show y=_ from rw');cases h;exact⟨rfl,rfl⟩
  | bl b=>cases(show y=_ from rw');cases h;exact⟨rfl,rfl⟩
  | int j n=>obtain⟨_,rfl,_⟩:=rw';cases h;exact⟨rfl,rfl⟩
  | str z=>cases(show y=_ from rw');cases h;exact⟨rfl,QkQ⟩
  | _=>exact nomatch (show(none:Option Bool)=some _ from h)
 | int i m =>
  obtain⟨i',rfl,a⟩:=ru
  cases w with
  | non=>cases(show y=_ from rw');cases m<;>cases h<;>exact⟨rfl,rfl⟩
  | str x=>cases(show y=_ from rw');cases m<;>cases h<;>exact⟨rfl,rfl⟩
  | int j n =>
   obtain⟨j',rfl,b⟩:=rw'
   cases m with
   | succ m=>exact nomatch (show(none:Option Bool)=some _ from h)
   | zero =>
    cases n with
    | succ n=>exact nomatch (show(none:Option Bool)=some _ from h)
    | zero=>cases a.exact;cases b.exact;cases h;exact⟨rfl,QkR⟩
  | _=>cases m<;>exact nomatch (show(none:Option Bool)=some _ from h)
 | _=>cases w<;>exact nomatch (show(none:Option Bool)=some _ from h)
theorem Qau{α:List Addr}{x:U}{v:V}(h:Qav x=true)(r:RU A α x v):YH v=true:=by
 cases x with
 | non=>cases(show v=_ from r);rfl
 | int i m=>obtain⟨_,rfl,_⟩:=r;rfl
 | str z=>cases(show v=_ from r);rfl
 | _=>cases h
theorem QiP{α:List Addr}{x y:U}{v w:V}(hx:Qav x=true)(hy:Qav y=true)(rx:RU A α x v)(ry:RU A α y w):eqV w v=eqF y x:=by
 cases y with
 | non =>
  cases(show w=_ from ry)
  cases x with
  | non=>cases(show v=_ from rx);rfl
  | int i m=>obtain⟨_,rfl,_⟩:=rx;rfl
  | str z=>cases(show v=_ from rx);rfl
  | _=>cases hx
 | str z =>
  cases(show w=_ from ry)
  cases x with
  | non=>cases(show v=_ from rx);rfl
  | int i m=>obtain⟨_,rfl,_⟩:=rx;rfl
  | str z' =>
   cases(show v=_ from rx)
   show(({ cps:=z.toArray }:Str)=={ cps:=z'.toArray })=decide (z=z')
   by_cases e:z=z'
   ·subst e;simp
   ·rw [decide_eq_false e,beq_eq_false_iff_ne]
    intro q
    have q2:=congrArg (fun s:Str=>s.cps.toList) q
    exact e (by simpa using q2)
  | _=>cases hx
 | int j n =>
  obtain⟨j',rfl,b⟩:=ry
  cases n with
  | succ n=>cases hy
  | zero =>
   cases b.exact
   cases x with
   | non=>cases(show v=_ from rx);rfl
   | str z=>cases(show v=_ from rx);rfl
   | int i m =>
    obtain⟨i',rfl,a⟩:=rx
    cases m with
    | succ m=>cases hx
    | zero =>
     cases a.exact
     show(j==i)=decide (j=i)
     by_cases e:j=i<;>simp [e]
   | _=>cases hx
 | _=>cases hy
theorem QcW{α:List Addr}{x:U}{v:V}(hx:Qav x=true)(rx:RU A α x v):∀{ys:List U} {ws:List V},RUs A α ys ws->ys.all Qav=true->ws.all YH=true/\inV v ws=ys.any fun y=>eqF y x
 | _,_,.nil,_=>⟨rfl,rfl⟩
 | _,_,.cons (a:=y) (b:=w) r t,h=>by
  rw [List.all_cons,Bool.and_eq_true]at h
  obtain⟨h1,h2⟩:=QcW hx rx t h.2
  refine⟨by rw [List.all_cons,h1,Qau h.1 r];rfl,?_⟩
  show(eqV w v||inV v _)=(eqF y x||_)
  rw [h2,QiP hx h.1 rx r]
theorem QfE{vs:List (Key×Value)}{y:U}{yv:V}{α:List Addr}(ky:Qbx y=true)(ry:RU A α y yv):∀{kvs:List (U×U)},Paired (fun(p:U×U) (q:Key×Value)=>Qgw p.1 q.1/\∃v,RU A [] p.2 v/\RelV v q.2) kvs vs ->
  ∃key,yv=kV key/\(valueAt vs key).isSome=(Jd kvs y).isSome:=by
 obtain⟨key,hy,hk⟩:∃key,yv=kV key/\Qgw y key:=by
  cases y with
  | int i m =>
   cases m with
   | zero=>obtain⟨j,rfl,c⟩:=ry;cases c.exact;exact⟨.inl i,rfl,rfl⟩
   | succ m=>cases ky
  | str z=>cases(show yv=_ from ry);exact⟨.inr ⟨z.toArray⟩,rfl,rfl⟩
  | _=>cases ky
 have inj:∀{p:U} {q:Key},Qgw p q->(p=y↔q=key):=by
  intro p q hp
  cases y with
  | int i m =>
   cases m with
   | succ m=>cases ky
   | zero =>
    cases(show key=_ from hk)
    cases p with
    | int j n =>
     cases n with
     | succ n=>exact(show False from hp).elim
     | zero=>cases(show q=_ from hp);exact⟨fun e=>(by cases e;rfl),fun e=>(by cases e;rfl)⟩
    | str z=>cases(show q=_ from hp);exact⟨fun e=>(by cases e),fun e=>(by cases e)⟩
    | _=>exact(show False from hp).elim
  | str z =>
   cases(show key=_ from hk)
   cases p with
   | int j n =>
    cases n with
    | succ n=>exact(show False from hp).elim
    | zero=>cases(show q=_ from hp);exact⟨fun e=>(by cases e),fun e=>(by cases e)⟩
   | str z' =>
    cases(show q=_ from hp)
    refine⟨fun e=>(by cases e;rfl),fun e=>?_⟩
    have e1:=Sum.inr.inj e
    have e2:=congrArg (fun s:Str=>s.cps.toList) e1
    have e3:z'=z:=by simpa using e2
    rw [e3]
   | _=>exact(show False from hp).elim
  | _=>cases ky
 intro kvs r
 refine⟨key,hy,?_⟩
 induction r with
 | nil=>rfl
 | @cons p q ps qs hpq t ih =>
  obtain⟨pk,pv⟩:=p
  obtain⟨qk,qv⟩:=q
  obtain⟨h1,v,h2,h3⟩:=hpq
  simp only [Jd]
  by_cases e:pk=y
  ·have e2:qk=key:=(inj h1).mp e
   rw [if_pos e]
   simp [valueAt,e2]
  ·have e2:¬qk=key:=fun z=>e ((inj h1).mpr z)
   rw [if_neg e,<-ih]
   simp only [valueAt,List.find?_cons]
   rw [decide_eq_false e2]
noncomputable def Qj8(P:Program)(w:World)(K:PySem.W.Frag)(neg:Bool):R2:=fun x y H Q=>∃a vs key,y=.ref a/\(a==sysModules)=false/\x=kV key/\(∀h:Heap,K.In h->h.DictOf (QB P w) a vs)/\Q (.bl (if neg then !(valueAt vs key).isSome else(valueAt vs key).isSome)) H
theorem Qcu:OpR X (compareOp .In) (Qj8 X.prog X.w X.K false):=by
 intro pins s σ H x y v u Q I rx ry h
 obtain⟨a,vs,key,rfl,ns,rfl,hd,q⟩:=h
 cases ry
 exact wpAny_in_of (JJ rx) ns (hd s.heap I.kIn).mapOf ⟨.bl _,H,I.tok _,rfl,q⟩
theorem JB:OpR X (compareOp .NotIn) (Qj8 X.prog X.w X.K true):=by
 intro pins s σ H x y v u Q I rx ry h
 obtain⟨a,vs,key,rfl,ns,rfl,hd,q⟩:=h
 cases ry
 exact wpAny_notIn_of (JJ rx) ns (hd s.heap I.kIn).mapOf ⟨.bl _,H,I.tok _,rfl,q⟩
theorem Qbr{f:Value->Value->Sem Value}{r r':R2}(h:OpR X f r)(h':OpR X f r'):OpR X f (fun x y H Q=>r x y H Q\/r' x y H Q):=fun pins s σ H x y v u Q I rx ry q=>q.elim (h pins s σ H x y v u Q I rx ry) (h' pins s σ H x y v u Q I rx ry)
theorem QbV{neg:Bool}{α:List Addr}{u w:U}{v y:V}{H:Hp}{Q:VK}{c:Bool}(tab:Jo X.prog X.w T A X.K)(h:Qji T w u=some c)(ru:RU A α u v)(rw':RU A α w y)(q:Q (.bl (if neg then !c else c)) H):Qj8 X.prog X.w X.K neg v y H Q\/∃i j,v=.str i/\y=.str j/\Q (.bl (if neg then !(!(Builtin.Str.occurrences j i 0 j.length 1).isEmpty)else !(Builtin.Str.occurrences j i 0 j.length 1).isEmpty)) H:=by
 unfold Qji at h
 split at h
 case h_3=>cases h
 case h_2 =>
  split at h
  ·rename_i y' x'
   cases h
   cases(show v=_ from ru)
   cases(show y=_ from rw')
   exact .inr ⟨_,_,rfl,rfl,q⟩
  ·cases h
 rename_i k
 refine .inl ?_
 split at h
 case h_2=>cases h
 rename_i kvs ec
 split at h
 case isFalse=>cases h
 rename_i ky
 cases h
 obtain⟨vs,ns,hd,hp⟩:=tab k kvs ec
 obtain⟨key,ev,e⟩:=QfE ky ru hp
 cases(show y=_ from rw')
 exact⟨_,vs,key,rfl,ns,ev,hd,by rw [e];exact q⟩
noncomputable def QlG(X:Cx)(T:Tbl)(A:Adr)(o:CmpOp):Prop:=∃r,OpR X (compareOp o) r/\∀{α:List Addr} {u w:U} {hs:Hs} {v y:V} {H:Hp} {Q:VK} {c:Bool},Zm T o u w hs=some c->RU A α u v->RU A α w y->Rep T A X.K α hs H->Q (.bl c) H->r v y H Q
theorem Qbf{o:CmpOp}{p:Int->Int->Bool}(ho:OpR X (compareOp o) (rI0 fun i j=>.bl (p i j)))(hc:∀u w hs,Zm T o u w hs=match u,w with | .int i 0,.int j 0=>some (p i j) | _,_=>none):QlG X T A o:=by
 refine⟨_,ho,?_⟩
 intro α u w hs v y H Q c h ru rw' R q
 rw [hc]at h
 split at h
 ·cases h
  obtain⟨i',rfl,a⟩:=ru
  obtain⟨j',rfl,b⟩:=rw'
  cases a.exact
  cases b.exact
  exact⟨_,_,rfl,rfl,q⟩
 ·cases h
theorem Qmp(tx:Txt T A X.K X.mg)(tab:Jo X.prog X.w T A X.K)(hu:X.A.units+64<cLine)(o:CmpOp):QlG X T A o:=by
 cases o with
 | Eq =>
  refine⟨_,OpR.or Qko (OpR.or (Qin tx hu) (OpR.or (Qim tx hu) (Qio tx hu))),?_⟩
  intro α u w hs v y H Q c h ru rw' R q
  simp only [Zm,eqA]at h
  split at h
  ·rename_i b e
   cases h
   obtain⟨h1,h2⟩:=Qfq e ru rw'
   exact .inl ⟨h1,by rw [h2];exact q⟩
  ·split at h
   ·rename_i c
    cases h
    exact .inr (.inl ⟨α,u,w,hs,ru,rw',R,c,q⟩)
   ·split at h
    ·rename_i c
     cases h
     exact .inr (.inr (.inl ⟨α,u,w,hs,ru,rw',R,c,q⟩))
    ·split at h
     ·rename_i c
      cases h
      rw [Bool.and_eq_true]at c
      exact .inr (.inr (.inr ⟨α,u,w,hs,ru,rw',R,c.1,c.2,q⟩))
     ·cases h
 | NotEq =>
  refine⟨_,OpR.or Qkj (OpR.or (Qii tx hu) (OpR.or (Qih tx hu) (Qij tx hu))),?_⟩
  intro α u w hs v y H Q c h ru rw' R q
  simp only [Zm,Option.map_eq_some_iff,eqA]at h
  obtain⟨d,h,e⟩:=h
  split at h
  ·rename_i b eb
   cases h
   obtain⟨h1,h2⟩:=Qfq eb ru rw'
   exact .inl ⟨h1,by rw [h2,e];exact q⟩
  ·split at h
   ·rename_i cc
    cases h
    refine .inr (.inl ⟨α,u,w,hs,ru,rw',R,cc,?_⟩)
    rw [show(true:Bool)=c from e]
    exact q
   ·split at h
    ·rename_i cc
     cases h
     refine .inr (.inr (.inl ⟨α,u,w,hs,ru,rw',R,cc,?_⟩))
     rw [show(false:Bool)=c from e]
     exact q
    ·split at h
     ·rename_i cc
      cases h
      rw [Bool.and_eq_true]at cc
      refine .inr (.inr (.inr ⟨α,u,w,hs,ru,rw',R,cc.1,cc.2,?_⟩))
      rw [if_pos rfl,e]
      exact q
     ·cases h
 | Lt=>exact Qbf Qkk fun _ _ _=>rfl
 | LtE=>exact Qbf Qkl fun _ _ _=>rfl
 | Gt=>exact Qbf Qkm fun _ _ _=>rfl
 | GtE=>exact Qbf Qkn fun _ _ _=>rfl
 | Is =>
  refine⟨_,Qfd,?_⟩
  intro α u w hs v y H Q c h ru rw' R q
  simp only [Zm]at h
  split at h
  ·cases h
   refine⟨rw',?_⟩
   have e:decide (v=.non)=decide (u=.non):=by
    cases u with
    | non=>cases(show v=_ from ru);rfl
    | bl b=>cases(show v=_ from ru);rfl
    | int i m=>obtain⟨_,rfl,_⟩:=ru;rfl
    | str x=>cases(show v=_ from ru);rfl
    | ref n=>obtain⟨_,_,rfl⟩:=ru;rfl
    | con k=>cases(show v=_ from ru);rfl
    | scr=>cases(show v=_ from ru);rfl
   rw [e]
   exact q
  ·cases h
 | IsNot =>
  refine⟨_,Qgh,?_⟩
  intro α u w hs v y H Q c h ru rw' R q
  simp only [Zm]at h
  split at h
  ·cases h
   refine⟨rw',?_⟩
   have e:decide (v=.non)=decide (u=.non):=by
    cases u with
    | non=>cases(show v=_ from ru);rfl
    | bl b=>cases(show v=_ from ru);rfl
    | int i m=>obtain⟨_,rfl,_⟩:=ru;rfl
    | str x=>cases(show v=_ from ru);rfl
    | ref n=>obtain⟨_,_,rfl⟩:=ru;rfl
    | con k=>cases(show v=_ from ru);rfl
    | scr=>cases(show v=_ from ru);rfl
   rw [e]
   exact q
  ·cases h
 | In =>
  refine⟨_,Qbr Qcw (Qbr (Qil (by lia)) (Qbr Qcu Qcv)),?_⟩
  intro α u w hs v y H Q c h ru rw' R q
  simp only [Zm]at h
  split at h
  ·rename_i xs e
   obtain⟨a,vs,rfl,rr,sq⟩:=Z7 (K':=X.K) tx R e rw'
   unfold inU at h
   split at h
   ·rename_i f
    cases h
    rw [Bool.and_eq_true]at f
    obtain⟨h1,h2⟩:=QcW f.1 ru rr f.2
    exact .inl ⟨a,vs,rfl,sq,Qau f.1 ru,h1,by rw [h2];exact q⟩
   ·cases h
  ·exact .inr ((Qfl (neg:=false) R h ru rw' q).imp id fun h=>QbV (neg:=false) tab h ru rw' q)
 | NotIn =>
  refine⟨_,Qbr JC (Qbr (Qct (by lia)) (Qbr JB JA)),?_⟩
  intro α u w hs v y H Q c h ru rw' R q
  simp only [Zm]at h
  split at h
  ·rename_i xs e
   obtain⟨a,vs,rfl,rr,sq⟩:=Z7 (K':=X.K) tx R e rw'
   simp only [Option.map_eq_some_iff]at h
   obtain⟨d,h,e2⟩:=h
   unfold inU at h
   split at h
   ·rename_i f
    cases h
    rw [Bool.and_eq_true]at f
    obtain⟨h1,h2⟩:=QcW f.1 ru rr f.2
    exact .inl ⟨a,vs,rfl,sq,Qau f.1 ru,h1,by rw [h2];simp only [if_true];rw [e2];exact q⟩
   ·cases h
  ·simp only [Option.map_eq_some_iff]at h
   obtain⟨d,h,e2⟩:=h
   have q':Q (.bl (if true=true then !d else d)) H:=by simp only [if_true];rw [e2];exact q
   exact .inr ((Qfl (neg:=true) R h ru rw' q').imp id fun h=>QbV (neg:=true) tab h ru rw' q')
theorem Qja{α:List Addr}{us:List U}{vs:List V}{i:Int}{u:U}(r:RUs A α us vs)(h:atU us i=some u):∃v,atI vs i=some v/\RU A α u v:=by
 unfold atU at h
 split at h
 ·rename_i j e
  obtain⟨v,h1,h2⟩:=r.get h
  refine⟨v,?_,h2⟩
  have e':ixN vs.length i=some j:=by rw [<-r.length];exact e
  unfold atI
  rw [e']
  exact h1
 ·cases h
theorem QkX{xs:List Nat}{i:Int}{c:Nat}(h:atU xs i=some c):atI xs i=some c:=by
 unfold atU at h
 split at h
 ·rename_i j e
  have e':ixN xs.length i=some j:=e
  unfold atI
  rw [e']
  exact h
 ·cases h
theorem QfJ{α:List Addr}{u w x:U}{hs:Hs}{v y:V}{H:Hp}{Q:VK}(tx:Txt T A X.K X.mg)(h:Zi T u w hs=some x)(ru:RU A α u v)(rw':RU A α w y)(R:Rep T A X.K α hs H)(k:∀z,RU A α x z->Q z H):rIx X.K v y H Q\/Qj9 v y H Q:=by
 have seq:∀{xs:List U} {i:Int},Z5 T u hs=some xs->w=.int i 0->atU xs i=some x->rIx X.K v y H Q\/Qj9 v y H Q:=fun {xs i} e1 e2 e3=>by
  subst e2
  obtain⟨j,rfl,c⟩:=rw'
  cases c.exact
  obtain⟨a,vs,rfl,rr,sq⟩:=Z7 (K':=X.K) tx R e1 ru
  obtain⟨z,h1,h2⟩:=Qja rr e3
  rcases sq with sq | sq
  ·exact .inl (.inl ⟨a,vs,i,z,rfl,rfl,sq,h1,k z h2⟩)
  ·exact .inl (.inr (.inl ⟨a,vs,i,z,rfl,rfl,sq,h1,k z h2⟩))
 cases u with
 | str z =>
  cases w with
  | int i m =>
   cases m with
   | succ m=>simp [Zi,Z5]at h
   | zero =>
    simp only [Zi]at h
    split at h
    ·rename_i l
     simp only [Option.map_eq_some_iff]at h
     obtain⟨c,e,rfl⟩:=h
     cases(show v=_ from ru)
     obtain⟨j,rfl,q⟩:=rw'
     cases q.exact
     exact .inl (.inr (.inr ⟨_,i,c,rfl,rfl,by rw [ZL];exact Nat.le_trans l big,by simpa using QkX e,k _ (by show _=_;rfl)⟩))
    ·cases h
  | _=>simp [Zi,Z5]at h
 | ref n =>
  simp only [Zi]at h
  split at h
  ·rename_i xs i e
   exact seq (by simp only [Z5,e]) rfl h
  ·rename_i xs i e
   exact seq (by simp only [Z5,e]) rfl h
  ·rename_i o e _ _
   obtain⟨a,ha,rfl⟩:=ru
   simp only [Option.bind_eq_some_iff,id_eq]at h
   obtain⟨r,h1,h2⟩:=h
   rcases Qdb R e ha h1 rw' with⟨h3,_⟩ | ⟨u',v',h3,g,rv⟩
   ·rw [h3]at h2;cases h2
   ·rw [h3]at h2;cases h2
    exact .inr ⟨a,v',rfl,g,k v' rv⟩
  ·cases h
 | con n =>
  cases w with
  | int i m =>
   cases m with
   | succ m=>simp [Zi]at h
   | zero =>
    simp only [Zi]at h
    split at h
    ·rename_i xs e
     exact seq e rfl h
    ·cases h
  | _=>simp [Zi]at h
 | scr =>
  cases w with
  | int i m =>
   cases m with
   | succ m=>simp [Zi]at h
   | zero =>
    simp only [Zi]at h
    split at h
    ·rename_i xs e
     exact seq e rfl h
    ·cases h
  | _=>simp [Zi]at h
 | _ =>
  cases w with
  | int i m=>cases m<;>simp [Zi,Z5]at h
  | _=>simp [Zi]at h
theorem RUs.drop{α:List Addr}:∀(n:Nat) {us:List U} {vs:List V},RUs A α us vs->RUs A α (us.drop n) (vs.drop n)
 | 0,_,_,r=>r
 | _+1,_,_,.nil=>.nil
 | n+1,_,_,.cons _ t=>RUs.drop n t
theorem RUs.take{α:List Addr}:∀(n:Nat) {us:List U} {vs:List V},RUs A α us vs->RUs A α (us.take n) (vs.take n)
 | 0,_,_,_=>.nil
 | _+1,_,_,.nil=>.nil
 | n+1,_,_,.cons r t=>.cons r (RUs.take n t)
theorem Z1(n d:Nat)(o:Option Int):Yi n d o=HT.sIx n d o:=by cases o<;>rfl
theorem RUs.cut{α:List Addr}{us:List U}{vs:List V}(r:RUs A α us vs)(lo hi:Option Int):RUs A α (YF us lo hi) (Qfs vs lo hi):=by
 unfold YF Qfs
 rw [Z1,Z1,r.length]
 exact RUs.take _ (RUs.drop _ r)
theorem QeK(x:List Nat)(lo hi:Option Int):(Txt.slice ⟨x.toArray⟩ lo hi)=⟨(YF x lo hi).toArray⟩:=by
 have h:=Qb1 ⟨x.toArray⟩ lo hi
 have e:(⟨x.toArray⟩:Str).length=x.length:=by simp [Str.length]
 rw [e]at h
 apply Str.ext'
 apply Array.toList_inj.mp
 rw [h]
 simp only [YF,Z1]
theorem Qhz{α:List Addr}{u x:U}{hs hs':Hs}{v:V}{H:Hp}{Q:VK}{lo hi:Option Int}(h:slU T u lo hi hs=some (x,hs'))(ru:RU A α u v)(R:Rep T A X.K α hs H)(k:∀α' z H',Ext α α' H H'->Rep T A X.K α' hs' H'->RU A α' x z->Q z H'):Qle X.K v lo hi H Q\/(Qlc X.K v lo hi H Q\/Qld v lo hi H Q):=by
 cases u with
 | scr =>
  simp only [slU]at h
  cases h
  obtain⟨vs,rr,q⟩:=R.s.sq (α:=α)
  refine .inl ⟨_,vs,ru,q,fun p hp=>?_⟩
  obtain⟨R',E'⟩:=R.new (o:=.lst (YF T.scr lo hi)) hp ⟨_,Qe,RUs.mono Qy (rr.cut lo hi)⟩
  exact k _ _ _ E' R' ⟨p,by rw [<-R.h.len];exact QH,rfl⟩
 | ref n =>
  simp only [slU]at h
  split at h
  ·rename_i xs e
   cases h
   obtain⟨a,ha,rfl⟩:=ru
   obtain⟨vs,q,rr⟩:=R.h.ob n a _ ha e
   refine .inl ⟨_,vs,rfl,SqL.of q,fun p hp=>?_⟩
   obtain⟨R',E'⟩:=R.new (o:=.lst (YF xs lo hi)) hp ⟨_,Qe,RUs.mono Qy (rr.cut lo hi)⟩
   exact k _ _ _ E' R' ⟨p,by rw [<-R.h.len];exact QH,rfl⟩
  ·rename_i xs e
   split at h
   ·cases h
   rename_i hw
   cases h
   obtain⟨a,ha,rfl⟩:=ru
   obtain⟨vs,q,rr⟩:=R.h.ob n a _ ha e
   refine .inr (.inl ⟨_,vs,rfl,SqT.of q,?_,fun p hp=>?_⟩)
   ·rw [Z1,Z1,rr.length]at hw
    exact hw
   obtain⟨R',E'⟩:=R.new (o:=.tup (YF xs lo hi)) hp ⟨_,Qe,RUs.mono Qy (rr.cut lo hi)⟩
   exact k _ _ _ E' R' ⟨p,by rw [<-R.h.len];exact QH,rfl⟩
  ·cases h
 | str y =>
  simp only [slU]at h
  split at h
  ·rename_i l
   cases h
   cases(show v=_ from ru)
   refine .inr (.inr ⟨_,rfl,by rw [ZL];exact Nat.le_trans l big,?_⟩)
   rw [QeK]
   exact k α _ H Ext.refl R rfl
  ·cases h
 | _=>simp [slU]at h
end
end Iv
namespace Iv
open PySem PySem.Spec PyProof.Rows L2
section
variable {X:Cx}{T:Tbl}{A:Adr}{C:Ctx}
theorem YD{e:Expr}{t:TE}(h:∀σ H Q,¬t σ H Q):PE X e t:=fun _ _ σ H Q _ q=>(h σ H Q q).elim
theorem Qku(K:PySem.W.Frag){k t:Ty}{b:Bool}(h:Qg9 k t=some b)(A:Adr):PySem.W.kitOne K (tyW A k) (tyW A t)=some b:=by
 cases k<;>cases t<;>simp only [Qg9]at h<;>first | (cases h;done) | (cases h;rfl) | (cases h;kernel_rfl)
theorem Qgu{α:List Addr}{u:U}{hs:Hs}{v:V}{H:Hp}{k:Ty}(tx:Txt T A X.K X.mg)(h:Qap u hs=some k)(r:RU A α u v)(R:Rep T A X.K α hs H):TyE X.K H v (tyW A k):=by
 cases u with
 | non=>cases h;cases(show v=_ from r);exact .inl .non
 | bl b=>cases h;cases(show v=_ from r);exact .inl (.bl b)
 | int i m=>cases h;obtain⟨j,rfl,_⟩:=r;exact .inl (.int j)
 | str x=>cases h;cases(show v=_ from r);exact .inl (.str _)
 | ref n =>
  obtain⟨a,ha,rfl⟩:=r
  simp only [Qap]at h
  split at h
  ·rename_i xs e
   cases h
   obtain⟨vs,q,_⟩:=R.h.ob n a _ ha e
   exact .inl (.lst q)
  ·rename_i xs e
   cases h
   obtain⟨vs,q,_⟩:=R.h.ob n a _ ha e
   exact .inl (.tup q)
  ·rename_i kvs e
   cases h
   obtain⟨kv,q,_⟩:=R.h.ob n a _ ha e
   exact .inl (.dK q)
  ·rename_i kvs e
   cases h
   obtain⟨kv,q,_⟩:=R.h.ob n a _ ha e
   exact .inl (.dT q)
  ·rename_i c fs e
   cases h
   obtain⟨dx,fv,q,_,l⟩:=R.h.ob n a _ ha e
   exact .inl ((tx.cl c _ (List.getElem?_eq_getElem l)).ty H a dx fv q)
  ·rename_i c e
   cases h
   obtain⟨dd,q,l,_⟩:=R.h.ob n a _ ha e
   exact .inr ⟨a,A.c c,dd,rfl,rfl,q,(tx.er c l).1⟩
  ·cases h
 | _=>simp [Qap]at h
theorem QiG{α:List Addr}{u:U}{hs:Hs}{v:V}{H:Hp}{t:Ty}{b:Bool}(tx:Txt T A X.K X.mg)(h:Qfk T t u hs=some b)(r:RU A α u v)(R:Rep T A X.K α hs H):∃tv,TyE X.K H v tv/\PySem.W.kitOne X.K tv (tyW A t)=some b:=by
 unfold Qfk at h
 split at h
 ·cases h
 ·rename_i k e
  refine⟨tyW A k,Qgu tx e r R,?_⟩
  split at h
  ·rename_i b' e'
   cases h
   exact Qku X.K e' A
  ·exact tx.isi k t b h
theorem QC{α:List Addr}{u:U}{us:List U}{vs:List V}(r:RUs A α (u::us) vs):∃v ws,vs=v::ws/\RU A α u v/\RUs A α us ws:=by cases r with | cons a b=>exact⟨_,_,rfl,a,b⟩
theorem Q4{α:List Addr}{vs:List V}(r:RUs A α [] vs):vs=[]:=by cases r;rfl
noncomputable def BiS(X:Cx)(T:Tbl)(A:Adr)(b:Bi)(f:Value):Prop:=∃r,CallR X f r/\∀{α:List Addr} {us:List U} {u':U} {hs hs':Hs} {vs:List V} {H:Hp} {Q:VK},biU T b us hs=some (u',hs')->RUs A α us vs->Rep T A X.K α hs H ->
 (∀α' v' H',Ext α α' H H'->Rep T A X.K α' hs' H'->RU A α' u' v'->Q v' H')->r vs H Q
theorem Qg0(tx:Txt T A X.K X.mg):BiS X T A .len (.builtin "len"):=by
 refine⟨_,CallR.or (CallR.or JU JT) Qdo,?_⟩
 intro α us u' hs hs' vs H Q h r R k
 have seq:∀{u:U} {xs:List U},us=[u]->Z5 T u hs=some xs->(u',hs')=(U.int xs.length 0,hs)->(∃p ys,vs=[V.ref p]/\(SqL X.K H p ys\/SqT X.K H p ys)/\Q (.int ys.length) H):=fun {u xs} e1 e2 e3=>by
  subst e1
  cases e3
  obtain⟨v,ws,rfl,ru,rn⟩:=QC r
  cases Q4 rn
  obtain⟨a,ys,rfl,rr,sq⟩:=Z7 (K':=X.K) tx R e2 ru
  exact⟨a,ys,rfl,sq,k α _ H Ext.refl R ⟨_,rfl,by rw [rr.length];exact Cg.refl _ _⟩⟩
 cases us with
 | nil=>first | exact nomatch (show(none:Option (U×Hs))=some _ from h) | simp [biU]at h
 | cons u t =>
  cases t with
  | cons _ _=>cases u<;>first | exact nomatch (show(none:Option (U×Hs))=some _ from h) | simp [biU]at h
  | nil =>
   cases u with
   | str x =>
    unfold biU at h;try dsimp only at h
    split at h
    ·rename_i l
     cases h
     obtain⟨v,ws,rfl,ru,rn⟩:=QC r
     cases Q4 rn
     cases(show v=_ from ru)
     refine .inl (.inr ⟨_,rfl,by rw [ZL];exact Nat.le_trans l big,k α _ H Ext.refl R ⟨_,rfl,?_⟩⟩)
     rw [ZL]
     exact Cg.refl _ _
    ·cases h
   | ref n =>
    unfold biU at h;try dsimp only at h
    split at h
    ·rename_i xs e
     exact .inl (.inl (seq rfl e (Option.some.inj h).symm))
    ·simp only [Qha]at h
     split at h
     ·rename_i kvs hp
      cases h
      obtain⟨v,ws,rfl,ru,rn⟩:=QC r
      cases Q4 rn
      obtain⟨a,ha,rfl⟩:=ru
      obtain⟨kv,hH,rd⟩:=R.h.ob n a _ ha hp
      exact .inr ⟨a,kv,rfl,hH,k α _ H Ext.refl R ⟨_,rfl,by rw [Paired.length rd];exact Cg.refl _ _⟩⟩
     ·cases h
   | con n =>
    unfold biU at h;try dsimp only at h
    split at h
    ·rename_i xs e
     exact .inl (.inl (seq rfl e (Option.some.inj h).symm))
    ·cases h
   | scr =>
    unfold biU at h;try dsimp only at h
    split at h
    ·rename_i xs e
     exact .inl (.inl (seq rfl e (Option.some.inj h).symm))
    ·cases h
   | _=>unfold biU at h;simp [Z5,Qha]at h
theorem Qdy:BiS X T A .tuple (.type "tuple"):=by
 refine⟨_,Ji,?_⟩
 intro α us u' hs hs' vs H Q h r R k
 cases us with
 | nil=>first | exact nomatch (show(none:Option (U×Hs))=some _ from h) | simp [biU]at h
 | cons u t =>
  cases t with
  | cons _ _=>cases u<;>first | exact nomatch (show(none:Option (U×Hs))=some _ from h) | simp [biU]at h
  | nil =>
   obtain⟨v,ws,rfl,ru,rn⟩:=QC r
   cases Q4 rn
   cases u with
   | ref n =>
    obtain⟨a,ha,rfl⟩:=ru
    unfold biU at h;try dsimp only at h
    split at h
    ·rename_i xs e
     cases h
     obtain⟨ys,q,rr⟩:=R.h.ob n a _ ha e
     refine⟨a,ys,rfl,.inl ⟨SqL.of q,fun p hp=>?_⟩⟩
     obtain⟨R',E'⟩:=R.new (o:=.tup xs) hp ⟨_,Qe,RUs.mono Qy rr⟩
     exact k _ _ _ E' R' ⟨p,by rw [<-R.h.len];exact QH,rfl⟩
    ·rename_i xs e
     cases h
     obtain⟨ys,q,rr⟩:=R.h.ob n a _ ha e
     exact⟨a,ys,rfl,.inr ⟨SqT.of q,k α _ H Ext.refl R ⟨a,ha,rfl⟩⟩⟩
    ·cases h
   | _=>first | exact nomatch (show(none:Option (U×Hs))=some _ from h) | simp [biU]at h
theorem QhO{α:List Addr}{u:U}{k:Key}(h:RK u k):RU A α u (kV k):=by
 cases u<;>simp only [RK]at h<;>first | exact h.elim | skip
 ·obtain⟨rfl,rfl⟩:=h;exact⟨_,rfl,Cg.refl _ _⟩
 ·subst h;rfl
theorem Qb9{α:List Addr}:∀{ks:List U} {keys:List Key},RKs ks keys->RUs A α ks (keys.map kV)
 | _,_,.nil=>.nil
 | _,_,.cons r t=>.cons (QhO r) (Qb9 t)
theorem Rep.alias{K:PySem.W.Frag}{α:List Addr}{hs:Hs}{H:Hp}{b:Addr}{ks:List U}{keys:List Key}(R:Rep T A K α hs H)(hb:H b=some (.tup (keys.map kV)))(rk:RKs ks keys):Rep T A K (α++[b]) (hs++[.tup ks]) H/\Ext α (α++[b]) H H:=by
 have nd:∀(i j:Nat) a,(α++[b])[i]?=some a->(α++[b])[j]?=some a->i=j\/∃vs,H a=some (.tup vs):=fun i j a e1 e2=>by
  rcases Qz e1 with q1 | ⟨_,q1⟩
  ·rcases Qz e2 with q2 | ⟨_,q2⟩
   ·exact R.h.nd i j a q1 q2
   ·exact .inr ⟨_,by rw [q2];exact hb⟩
  ·exact .inr ⟨_,by rw [q1];exact hb⟩
 refine⟨⟨⟨by simp [R.h.len],nd,fun n a ob e1 e2=>?_⟩,R.s⟩,⟨Qy,fun n a e l=>?_,fun _ _ e _=>e,fun _ _ _ e=>e,fun _ o e=>⟨o,e,fun _=>Iff.rfl⟩⟩⟩
 ·rcases Qz e1 with q | ⟨q1,q2⟩
  ·rcases Qz e2 with z | ⟨z,_⟩
   ·exact RO.keep (R.h.ob n a ob q z) Qy fun _ _ e _=>e
   ·have:=getElem?_lt q
    rw [R.h.len]at this
    lia
  ·subst q2
   rcases Qz e2 with z | ⟨_,z⟩
   ·have:=(List.getElem?_eq_some_iff.mp z).1
    rw [<-R.h.len]at this
    lia
   ·subst z
    exact⟨_,hb,Qb9 rk⟩
 ·rcases Qz e with q | ⟨_,q⟩
  ·have:=getElem?_lt q
   lia
  ·exact .inr ⟨_,by rw [q];exact hb⟩
theorem Yq{K:PySem.W.Frag}{H:Hp}:∀{kvs:List (List U×U)} {kv:List (List Key×V)} {bs:List Addr} {α β:List Addr} {hs:Hs},RT A β kvs kv->Paired (fun(p:List Key×V) b=>H b=some (.tup (p.1.map kV))) kv bs->Rep T A K α hs H ->
  Rep T A K (α++bs) (hs++kvs.map fun p=>O.tup p.1) H/\Ext α (α++bs) H H/\∀(i:Nat) (γ:List Addr),(∀(n:Nat) a,(α++bs)[n]?=some a->γ[n]?=some a)->i=α.length->RUs A γ (Qbo i kvs.length) (bs.map V.ref)
 | _,_,_,α,β,hs,.nil,.nil,R=>by
  simp only [List.append_nil,List.map_nil]
  exact⟨R,Ext.refl,fun _ _ _ _=>.nil⟩
 | _,_,_,α,β,hs,.cons (a:=p) r t,.cons (b:=b) h tb,R=>by
  obtain⟨R1,E1⟩:=R.alias h r.1
  obtain⟨R2,E2,l2⟩:=Yq t tb R1
  have ea:∀l:List Addr,α++b::l=α++[b]++l:=fun l=>by simp
  have eh:∀l:Hs,hs++O.tup p.1::l=hs++[O.tup p.1]++l:=fun l=>by simp
  rw [List.map_cons,ea,eh]
  refine⟨R2,E1.trans E2 R2.h,fun i γ hg hi=>?_⟩
  rw [List.map_cons,List.length_cons,Qbo]
  refine .cons ⟨b,hg i b ?_,rfl⟩ (l2 (i+1) γ hg (by simp [hi]))
  rw [hi,List.getElem?_append_left (by simp)]
  exact QH
theorem QeP(tx:Txt T A X.K X.mg)(hc:X.calm=true):BiS X T A .list (.type "list"):=by
 refine⟨_,CallR.or JS (QbH hc),?_⟩
 intro α us u' hs hs' vs H Q h r R k
 cases us with
 | nil=>first | exact nomatch (show(none:Option (U×Hs))=some _ from h) | simp [biU]at h
 | cons u t =>
  cases t with
  | cons _ _=>cases u<;>first | exact nomatch (show(none:Option (U×Hs))=some _ from h) | simp [biU]at h
  | nil =>
   obtain⟨v,ws,rfl,ru,rn⟩:=QC r
   cases Q4 rn
   have h:(match Z5 T u hs with
    | some xs=>some (U.ref hs.length,hs++[O.lst xs])
    | none=>(Qha u hs).map fun kvs=>(U.ref (hs++kvs.map fun p=>O.tup p.1).length,(hs++kvs.map fun p=>O.tup p.1)++[O.lst (Qbo hs.length kvs.length)]))=some (u',hs'):=by
    cases u<;>exact h
   split at h
   ·rename_i xs e
    cases h
    obtain⟨a,ys,rfl,rr,sq⟩:=Z7 (K':=X.K) tx R e ru
    refine .inl ⟨a,ys,rfl,sq,fun p hp=>?_⟩
    obtain⟨R',E'⟩:=R.new (o:=.lst xs) hp ⟨_,Qe,RUs.mono Qy rr⟩
    exact k _ _ _ E' R' ⟨p,by rw [<-R.h.len];exact QH,rfl⟩
   ·rename_i hno
    clear hno
    simp only [Option.map_eq_some_iff]at h
    obtain⟨kvs,hd,h⟩:=h
    cases h
    unfold Qha at hd
    split at hd
    ·rename_i n
     split at hd
     ·rename_i kvs' hp
      cases hd
      obtain⟨a,ha,rfl⟩:=ru
      obtain⟨kv,hH,rd⟩:=R.h.ob n a _ ha hp
      refine .inr ⟨a,kv,rfl,hH,fun bs pb p hp=>?_⟩
      obtain⟨R1,E1,l1⟩:=Yq rd pb R
      obtain⟨R',E'⟩:=R1.new (p:=p) (o:=.lst (Qbo hs.length kvs.length)) (ho:=.lst (bs.map V.ref)) hp ⟨_,Qe,l1 hs.length _ Qy R.h.len.symm⟩
      exact k _ _ _ (E1.trans E' R'.h) R' ⟨p,by rw [<-R1.h.len];exact QH,rfl⟩
     ·cases hd
    ·cases hd
theorem Qbb{α:List Addr}:∀{ys:List U} {ns:List Int} {vs:List V},YG ys=some ns->RUs A α ys vs->vs=ns.map V.int
 | [],_,_,h,r=>by cases h;cases Q4 r;rfl
 | u::ys,ns,vs,h,r=>by
  cases u with
  | int i m =>
   cases m with
   | succ m=>simp [YG]at h
   | zero =>
    simp only [YG,Option.map_eq_some_iff]at h
    obtain⟨ns',h,rfl⟩:=h
    obtain⟨v,ws,rfl,ru,rn⟩:=QC r
    obtain⟨j,rfl,c⟩:=ru
    cases c.exact
    rw [Qbb h rn]
    rfl
  | _=>simp [YG]at h
theorem JW{α:List Addr}:∀{ys:List U} {bs:List Bool} {vs:List V},Y2 ys=some bs->RUs A α ys vs->vs=bs.map V.bl
 | [],_,_,h,r=>by cases h;cases Q4 r;rfl
 | u::ys,bs,vs,h,r=>by
  cases u with
  | bl b =>
   simp only [Y2,Option.map_eq_some_iff]at h
   obtain⟨bs',h,rfl⟩:=h
   obtain⟨v,ws,rfl,ru,rn⟩:=QC r
   cases(show v=_ from ru)
   rw [JW h rn]
   rfl
  | _=>simp [Y2]at h
theorem QgZ(tx:Txt T A X.K X.mg)(hc:X.calm=true):BiS X T A .sum (.builtin "sum"):=by
 refine⟨_,Qdn hc,?_⟩
 intro α us u' hs hs' vs H Q h r R k
 have h:biL T .sum us hs=some (u',hs'):=h
 unfold biL at h
 split at h<;>try contradiction
 ·simp only [Option.bind_eq_some_iff,Option.map_eq_some_iff]at h
  obtain⟨xs,el,ns,en,h⟩:=h
  cases h
  obtain⟨v,ws,rfl,ru,rn⟩:=QC r
  cases Q4 rn
  obtain⟨a,vs,rfl,rr,sq⟩:=Ze tx R el ru
  cases Qbb en rr
  exact⟨a,ns,rfl,sq,k α _ H Ext.refl R ⟨_,rfl,Cg.refl _ _⟩⟩
theorem Qg1(tx:Txt T A X.K X.mg)(hc:X.calm=true):BiS X T A .any (.builtin "any"):=by
 refine⟨_,Qdq hc,?_⟩
 intro α us u' hs hs' vs H Q h r R k
 have h:biL T .any us hs=some (u',hs'):=h
 unfold biL at h
 split at h<;>try contradiction
 ·simp only [Option.bind_eq_some_iff,Option.map_eq_some_iff]at h
  obtain⟨xs,el,ns,en,h⟩:=h
  cases h
  obtain⟨v,ws,rfl,ru,rn⟩:=QC r
  cases Q4 rn
  obtain⟨a,vs,rfl,rr,sq⟩:=Ze tx R el ru
  cases JW en rr
  exact⟨a,ns,rfl,sq,k α _ H Ext.refl R rfl⟩
noncomputable def BmS(X:Cx)(T:Tbl)(A:Adr)(b:Bm)(id:String):Prop:=∃r,MtR X id r/\∀{α:List Addr} {o u':U} {us:List U} {hs hs':Hs} {x:V} {vs:List V} {H:Hp} {Q:VK},bmU T b o us hs=some (u',hs')->RU A α o x->RUs A α us vs->Rep T A X.K α hs H ->
 (∀α' v' H',Ext α α' H H'->Rep T A X.K α' hs' H'->RU A α' u' v'->Q v' H')->r x vs H Q
theorem QgX{b:Bm}{o u':U}{us:List U}{hs hs':Hs}(h:bmU T b o us hs=some (u',hs'))(hb:∀x,bmS T b x us hs=none)(hd:∀n kvs,bmD b n kvs us hs=none):∃n xs,o=.ref n/\hs[n]?=some (.lst xs):=by
 cases o with
 | ref n =>
  simp only [bmU]at h
  split at h
  ·rename_i xs e
   exact⟨n,xs,rfl,e⟩
  ·rw [hd]at h;cases h
  ·cases h
 | str x =>
  simp only [bmU]at h
  rw [hb]at h
  cases h
 | _=>simp [bmU]at h
theorem QbI:BmS X T A .append "list.append":=by
 refine⟨_,JF,?_⟩
 intro α o u' us hs hs' x vs H Q h ro r R k
 obtain⟨n,xs,rfl,e⟩:=QgX h (fun _=>rfl) (fun _ _=>rfl)
 obtain⟨a,ha,rfl⟩:=ro
 cases us with
 | nil=>simp [bmU,bmL,e]at h
 | cons u t =>
  cases t with
  | cons _ _=>simp [bmU,bmL,e]at h
  | nil =>
   simp only [bmU,bmL,e]at h
   split at h
   ·rename_i l
    cases h
    obtain⟨v,ws,rfl,ru,rn⟩:=QC r
    cases Q4 rn
    obtain⟨ys,q,rr⟩:=R.h.ob n a _ ha e
    refine⟨a,ys,v,rfl,rfl,q,?_,?_⟩
    ·rw [<-rr.length];exact Nat.lt_of_lt_of_le l big
    ·obtain⟨R',E'⟩:=R.put (o:=.lst (xs++[u])) ha ⟨_,Qe,rr.append (.cons ru .nil)⟩
     exact k _ _ _ E' R' rfl
   ·cases h
theorem RUs.reverse{α:List Addr}:∀{us:List U} {vs:List V},RUs A α us vs->RUs A α us.reverse vs.reverse
 | _,_,.nil=>.nil
 | _,_,.cons r t=>by
  rw [List.reverse_cons,List.reverse_cons]
  exact RUs.append (RUs.reverse t) (.cons r .nil)
end
end Iv
namespace Iv
open PySem PySem.Spec PyProof.Rows L2
noncomputable def TIO(T:Tbl)(A:Adr)(K:PySem.W.Frag)(f:Rho->Hs->Option (Option Int×Hs)):TO:=fun σ H Q=>∃α ρ hs u hs',RS A α ρ σ/\Rep T A K α hs H/\f ρ hs=some (u,hs') /\
 ∀α' H',Ext α α' H H'->Rep T A K α' hs' H'->Q u H'
structure Fc(X:Cx)(T:Tbl)(A:Adr)(cf:Cf)(k:Nat):Prop where
 ok:∀f F,T.fns[f]?=some F->∃fd,FnOk X.prog X.w X.K X.mg X.base CX0 k (A.f f) fd F.ps (spC T A X.K cf f)/\Binds X.K fd F.ps []/\PySem.W.keepIn X.K (.ref (A.f f))=true
 some:∀f us hs r,cf f us hs=some r->∃F,T.fns[f]?=some F/\us.length=F.np
 df:∀i D F,T.dfl.lookup i=Option.some D->T.fns[i]?=Option.some F->∃fd,FnOk X.prog X.w X.K X.mg X.base CX0 k (A.f i) fd D.ps (spC T A X.K cf i)/\PySem.W.keepIn X.K (.ref (A.f i))=true/\Qjz A X.K fd D
 xf:∀f F,T.fns[f]?=Option.some F->∃fd,FnOk X.prog X.w X.K X.mg X.base (CXw X.prog X.w) k (A.f f) fd F.ps (spX T A X.K T.xf f)/\Binds X.K fd F.ps []/\PySem.W.keepIn X.K (.ref (A.f f))=true
structure Snd(T:Tbl)(A:Adr)(C:Ctx)(X:Cx)(cf:Cf)(m:Nat):Prop where
 e:∀d e ir,Qf m C e=some ir->PE X e (TI T A X.K (ev T cf d ir))
 t:∀d e ir,compT m C e=some ir->PT X e (TIT T A X.K (evT T cf d ir))/\PE X e (TI T A X.K (ev T cf d ir))
 an:∀d a r p ir,compAnd m C a r p=some ir->PW X (.BoolOp .And (a::r) p) (TIT T A X.K (evT T cf d ir))/\PE X (.BoolOp .And (a::r) p) (TI T A X.K (ev T cf d ir))
 orr:∀d a r p ir,compOr m C a r p=some ir->PW X (.BoolOp .Or (a::r) p) (TIT T A X.K (evT T cf d ir))/\PE X (.BoolOp .Or (a::r) p) (TI T A X.K (ev T cf d ir))
 a:∀d es irs,compA m C es=some irs->PA X es (TIA T A X.K (fun ρ hs=>evs (ev T cf d) ρ irs hs))
 o:∀d e ir,compO m C e=some ir->PO X e (TIO T A X.K (fun ρ hs=>evO (ev T cf d) ρ ir hs))
section
variable {X:Cx}{T:Tbl}{A:Adr}{C:Ctx}{cf:Cf}{m:Nat}
theorem QaG{e:Expr}{t:TT}(h:∀σ H Q,¬t σ H Q):PT X e t:=fun _ _ σ H Q _ q=>(h σ H Q q).elim
theorem Qg4{e:Expr}{t:TT}(h:∀σ H Q,¬t σ H Q):PW X e t:=fun _ _ _ σ H Q _ q=>(h σ H Q q).elim
theorem Qit{K:PySem.W.Frag}{ir:E}:∀σ H Q,¬TI T A K (ev T cf 0 ir) σ H Q:=fun _ _ _ ⟨_,_,_,_,_,_,_,h,_⟩=>nomatch h
theorem QcB{K:PySem.W.Frag}{ir:E}:∀σ H Q,¬TIT T A K (evT T cf 0 ir) σ H Q:=fun _ _ _ ⟨_,_,_,_,_,_,_,h,_⟩=>nomatch h
theorem QD{e:Expr}{ir:E}{d:Nat}(h:∀d',PE X e (TI T A X.K (ev T cf (d'+1) ir))):PE X e (TI T A X.K (ev T cf d ir)):=by
 cases d with
 | zero=>exact YD Qit
 | succ d=>exact h d
theorem QfS{c:Const}{k:Nat}{p:Pos}{d:Nat}{ir:E}(h:Qf (m+1) C (.Constant c k p)=some ir):PE X (.Constant c k p) (TI T A X.K (ev T cf d ir)):=by
 refine QD fun d=>?_
 cases c with
 | int i=>cases h;exact Q6 Qco fun σ H Q ⟨α,ρ,hs,u,hs',rs,R,e,q⟩=>by cases e;exact q α _ H Ext.refl R ⟨i,rfl,Cg.refl _ _⟩
 | bool b=>cases h;exact Q6 Qki fun σ H Q ⟨α,ρ,hs,u,hs',rs,R,e,q⟩=>by cases e;exact q α _ H Ext.refl R rfl
 | none=>cases h;exact Q6 Qfa fun σ H Q ⟨α,ρ,hs,u,hs',rs,R,e,q⟩=>by cases e;exact q α _ H Ext.refl R rfl
 | str x=>cases h;exact Q6 Qcn fun σ H Q ⟨α,ρ,hs,u,hs',rs,R,e,q⟩=>by cases e;exact q α _ H Ext.refl R rfl
 | _=>first | exact nomatch (show(none:Option E)=some _ from h) | simp [Qf]at h
theorem QhF{x:Str}{p:Pos}{d:Nat}{ir:E}(g:GX T A C X)(h:Qf (m+1) C (.Name x p)=some ir):PE X (.Name x p) (TI T A X.K (ev T cf d ir)):=by
 refine QD fun d=>?_
 simp only [cE4]at h
 split at h
 ·cases h
 ·rename_i hn
  have n1:(x==("__debug__":Str))=false:=Q3 fun z=>hn (.inl z)
  have n2:(x==("__classdict__":Str))=false:=Q3 fun z=>hn (.inr z)
  split at h
  ·rename_i hv
   simp only [Option.map_eq_some_iff]at h
   obtain⟨i,hi,rfl⟩:=h
   refine Q6 (Qcm (i:=i) (by rw [g.N];exact Zf hi) (Qhh g hv) n1 n2) ?_
   rintro σ H Q ⟨α,ρ,hs,u,hs',rs,R,e,q⟩
   simp only [ev]at e
   split at e
   ·rename_i w e'
    cases e
    obtain⟨v,h1,h2⟩:=rs.get e'
    exact⟨v,h1,q α v H Ext.refl R h2⟩
   ·cases e
  ·split at h
   ·rename_i hg
    split at h
    ·rename_i k hk
     cases h
     refine Q6 (Qai (Zc g hg) (g.gco x k hk) (v:=.ref (A.k k)) rfl n1) ?_
     rintro σ H Q ⟨α,ρ,hs,u,hs',rs,R,e,q⟩
     cases e
     exact q α _ H Ext.refl R rfl
    ·rename_i t hk
     cases h
     obtain⟨k,hm⟩:=g.gtx x t hk
     refine Q6 (Qai (Zc g hg) hm (v:=.str ⟨t.toArray⟩) ⟨_,rfl⟩ n1) ?_
     rintro σ H Q ⟨α,ρ,hs,u,hs',rs,R,e,q⟩
     simp only [ev]at e
     cases e
     exact q α _ H Ext.refl R rfl
    ·cases h
   ·cases h
theorem QjY{a b:Expr}{o:Operator}{p:Pos}{d:Nat}{ir:E}(S:Snd T A C X cf m)(h:Qf (m+1) C (.BinOp a o b p)=some ir):PE X (.BinOp a o b p) (TI T A X.K (ev T cf d ir)):=by
 refine QD fun d=>?_
 simp only [cE5,Option.bind_eq_some_iff]at h
 obtain⟨a',ha,b',hb,h⟩:=h
 cases h
 obtain⟨r,ho,hr⟩:=opS (X:=X) (T:=T) (A:=A) o
 refine Q6 (Qkf ho (S.e d a a' ha) (S.e d b b' hb)) ?_
 rintro σ H Q ⟨α,ρ,hs,u,hs',rs,R,e,q⟩
 simp only [ev]at e
 obtain⟨u1,h1,e1,e⟩:=Qc e
 obtain⟨u2,h2,e2,e⟩:=Qc e
 refine TI.run rs R e1 fun α1 x H1 E1 R1 r1 rs1=>?_
 refine TI.run rs1 R1 e2 fun α2 y H2 E2 R2 r2 rs2=>?_
 exact hr e (r1.mono E2.pre) r2 R2 fun α3 v H3 E3 R3 r3=>q α3 v H3 ((E1.trans E2 R2.h).trans E3 R3.h) R3 r3
theorem QjU{a:Expr}{p:Pos}{d:Nat}{ir:E}(S:Snd T A C X cf m)(h:Qf (m+1) C (.UnaryOp .USub a p)=some ir):PE X (.UnaryOp .USub a p) (TI T A X.K (ev T cf d ir)):=by
 refine QD fun d=>?_
 simp only [cE6,Option.bind_eq_some_iff]at h
 obtain⟨a',ha,h⟩:=h
 cases h
 refine Q6 (Qh7 QeX (S.e d a a' ha)) ?_
 rintro σ H Q ⟨α,ρ,hs,u,hs',rs,R,e,q⟩
 simp only [ev]at e
 obtain⟨u1,h1,e1,e⟩:=Qc e
 refine TI.run rs R e1 fun α1 x H1 E1 R1 r1 rs1=>?_
 split at e
 ·cases e
  obtain⟨i,rfl,c⟩:=r1
  exact⟨i,rfl,q α1 _ H1 E1 R1 ⟨_,rfl,Qfu c⟩⟩
 ·cases e
theorem QhE{a:Expr}{p:Pos}{d:Nat}{ir:E}(tx:Txt T A X.K X.mg)(S:Snd T A C X cf m)(h:Qf (m+1) C (.UnaryOp .Not a p)=some ir):PE X (.UnaryOp .Not a p) (TI T A X.K (ev T cf d ir))/\PT X (.UnaryOp .Not a p) (TIT T A X.K (evT T cf d ir)):=by
 simp only [cE7,Option.bind_eq_some_iff]at h
 obtain⟨a',ha,h⟩:=h
 cases h
 constructor
 ·refine QD fun d=>?_
  intro pins s σ H Q I hw
  obtain⟨α,ρ,hs,u,hs',rs,R,e,q⟩:=hw
  simp only [ev]at e
  obtain⟨u1,h1,e1,e⟩:=Qc e
  simp only [Option.map_eq_some_iff]at e
  obtain⟨c,e2,e⟩:=e
  cases e
  refine UnaryOp_ (thn ((S.t d a a' ha).2 pins s σ H (fun v H'=>Qjb X.K v H' c/\Q (.bl (!c)) H') I ⟨α,ρ,hs,u1,_,rs,R,e1,fun α' v H' E' R' r'=>⟨QbT tx R' e2 r',q α' _ H' E' R' rfl⟩⟩) fun v s1 ⟨x,H1,I1,r1,q1,q2⟩=>?_)
  exact not_of (thn (QeZ pins s1 σ H1 x v (fun b H'=>b=c/\H'=H1) I1 r1 ⟨c,q1,rfl,rfl⟩) fun b s2 ⟨H2,I2,eb,eH⟩=>⟨.bl (!c),H2,I2,by rw [eb];rfl,by rw [eH];exact q2⟩)
 ·cases d with
  | zero=>exact QaG QcB
  | succ d =>
   refine Qg5 (QhZ (S.t d a a' ha).1) ?_
   rintro σ H Q ⟨α,ρ,hs,u,hs',rs,R,e,q⟩
   simp only [evT]at e
   obtain⟨c,h1,e1,e⟩:=Qc e
   cases e
   exact TIT.run rs R e1 fun α1 H1 E1 R1 rs1=>q α1 H1 E1 R1
end
end Iv
namespace Iv
open PySem PySem.Spec PyProof.Rows L2
section
variable {X:Cx}{T:Tbl}{A:Adr}{C:Ctx}{cf:Cf}{m:Nat}
theorem QaR{e:Expr}{ir:E}{d:Nat}(h:∀d',PT X e (TIT T A X.K (evT T cf (d'+1) ir))):PT X e (TIT T A X.K (evT T cf d ir)):=by
 cases d with
 | zero=>exact QaG QcB
 | succ d=>exact h d
theorem QaQ{e:Expr}{ir:E}{d:Nat}(h:∀d',PW X e (TIT T A X.K (evT T cf (d'+1) ir))):PW X e (TIT T A X.K (evT T cf d ir)):=by
 cases d with
 | zero=>exact Qg4 QcB
 | succ d=>exact h d
theorem QhK(S:Snd T A C X cf m)(d:Nat)(a:Expr)(r:List Expr)(p:Pos)(ir:E)(h:compAnd (m+1) C a r p=some ir):
  PW X (.BoolOp .And (a::r) p) (TIT T A X.K (evT T cf d ir))/\PE X (.BoolOp .And (a::r) p) (TI T A X.K (ev T cf d ir)):=by
 cases r with
 | nil=>exact⟨QfW (S.t d a ir h).1,Qe9 (S.t d a ir h).2⟩
 | cons b r =>
  simp only [compAnd,Option.bind_eq_some_iff]at h
  obtain⟨a',ha,b',hb,h⟩:=h
  cases h
  constructor
  ·refine QaQ fun d=>?_
   refine Qjc (QhX (S.t d a a' ha).1 (S.an d b r p b' hb).1) ?_
   rintro σ H Q ⟨α,ρ,hs,u,hs',rs,R,e,q⟩
   simp only [evT]at e
   obtain⟨c,h1,e1,e⟩:=Qc e
   refine TIT.run rs R e1 fun α1 H1 E1 R1 rs1=>?_
   cases c with
   | true=>exact TIT.run rs1 R1 e fun α2 H2 E2 R2 rs2=>q α2 H2 (E1.trans E2 R2.h) R2
   | false=>cases e;exact q α1 H1 E1 R1
  ·refine QD fun d=>?_
   refine Q6 (Qid (S.t d a a' ha).2 (S.an d b r p b' hb).2) ?_
   rintro σ H Q ⟨α,ρ,hs,u,hs',rs,R,e,q⟩
   simp only [ev]at e
   obtain⟨u1,h1,e1,e⟩:=Qc e
   refine TI.run rs R e1 fun α1 x H1 E1 R1 r1 rs1=>?_
   split at e
   ·cases(show x=_ from r1)
    exact⟨true,rfl,TI.run rs1 R1 e fun α2 v H2 E2 R2 r2 rs2=>q α2 v H2 (E1.trans E2 R2.h) R2 r2⟩
   ·cases(show x=_ from r1)
    cases e
    exact⟨false,rfl,q α1 _ H1 E1 R1 rfl⟩
   ·cases e
theorem Qk9(S:Snd T A C X cf m)(d:Nat)(a:Expr)(r:List Expr)(p:Pos)(ir:E)(h:compOr (m+1) C a r p=some ir):
  PW X (.BoolOp .Or (a::r) p) (TIT T A X.K (evT T cf d ir))/\PE X (.BoolOp .Or (a::r) p) (TI T A X.K (ev T cf d ir)):=by
 cases r with
 | nil=>exact⟨QhW (S.t d a ir h).1,Qe9 (S.t d a ir h).2⟩
 | cons b r =>
  simp only [compOr,Option.bind_eq_some_iff]at h
  obtain⟨a',ha,b',hb,h⟩:=h
  cases h
  constructor
  ·refine QaQ fun d=>?_
   refine Qjc (Qkc (S.t d a a' ha).1 (S.orr d b r p b' hb).1) ?_
   rintro σ H Q ⟨α,ρ,hs,u,hs',rs,R,e,q⟩
   simp only [evT]at e
   obtain⟨c,h1,e1,e⟩:=Qc e
   refine TIT.run rs R e1 fun α1 H1 E1 R1 rs1=>?_
   cases c with
   | false=>exact TIT.run rs1 R1 e fun α2 H2 E2 R2 rs2=>q α2 H2 (E1.trans E2 R2.h) R2
   | true=>cases e;exact q α1 H1 E1 R1
  ·refine QD fun d=>?_
   refine Q6 (Qke (S.t d a a' ha).2 (S.orr d b r p b' hb).2) ?_
   rintro σ H Q ⟨α,ρ,hs,u,hs',rs,R,e,q⟩
   simp only [ev]at e
   obtain⟨u1,h1,e1,e⟩:=Qc e
   refine TI.run rs R e1 fun α1 x H1 E1 R1 r1 rs1=>?_
   split at e
   ·cases(show x=_ from r1)
    cases e
    exact⟨true,rfl,q α1 _ H1 E1 R1 rfl⟩
   ·cases(show x=_ from r1)
    exact⟨false,rfl,TI.run rs1 R1 e fun α2 v H2 E2 R2 r2 rs2=>q α2 v H2 (E1.trans E2 R2.h) R2 r2⟩
   ·cases e
theorem Qiu{b:Expr}{b':E}{o:CmpOp}(h:Qf m C b=some b'):behindInMarks o b=false:=by
 cases b<;>first | rfl | skip
 cases m<;>first | exact nomatch (show(none:Option E)=some _ from h) | simp [Qf]at h
theorem QhI{a b:Expr}{o:CmpOp}{p:Pos}{d:Nat}{ir:E}(tx:Txt T A X.K X.mg)(tab:Jo X.prog X.w T A X.K)(hu:X.A.units+64<cLine)(S:Snd T A C X cf m)(h:Qf (m+1) C (.Compare a [o] [b] p)=some ir):
  PE X (.Compare a [o] [b] p) (TI T A X.K (ev T cf d ir))/\PT X (.Compare a [o] [b] p) (TIT T A X.K (evT T cf d ir)):=by
 simp only [QmC,Option.bind_eq_some_iff]at h
 obtain⟨a',ha,b',hb,h⟩:=h
 cases h
 obtain⟨r,ho,hr⟩:=Qmp (X:=X) (T:=T) (A:=A) tx tab hu o
 have key:∀(d:Nat) (σ:St) (H:Hp) (Q:VK) (α:List Addr) (ρ:Rho) (hs hs':Hs) (u:U),RS A α ρ σ->Rep T A X.K α hs H->ev T cf (d+1) (.cmp o a' b') ρ hs=some (u,hs') ->
   (∀α' c H',u=.bl c->Ext α α' H H'->Rep T A X.K α' hs' H'->Q (.bl c) H')->tOp r (TI T A X.K (ev T cf d a')) (TI T A X.K (ev T cf d b')) σ H Q:=by
  intro d σ H Q α ρ hs hs' u rs R e q
  simp only [ev]at e
  obtain⟨u1,h1,e1,e⟩:=Qc e
  obtain⟨u2,h2,e2,e⟩:=Qc e
  simp only [Option.map_eq_some_iff]at e
  obtain⟨c,e3,e⟩:=e
  cases e
  refine TI.run rs R e1 fun α1 x H1 E1 R1 r1 rs1=>?_
  refine TI.run rs1 R1 e2 fun α2 y H2 E2 R2 r2 rs2=>?_
  exact hr e3 (r1.mono E2.pre) r2 R2 (q α2 c H2 rfl (E1.trans E2 R2.h) R2)
 constructor
 ·refine QD fun d=>?_
  refine Q6 (Qge ho (S.e d a a' ha) (S.e d b b' hb) (Qiu hb)) ?_
  rintro σ H Q ⟨α,ρ,hs,u,hs',rs,R,e,q⟩
  exact key d σ H Q α ρ hs hs' u rs R e fun α' c H' eu E' R'=>q α' _ H' E' R' (by rw [eu];rfl)
 ·refine QaR fun d=>?_
  cases d with
  | zero=>exact QaG fun _ _ _ ⟨_,_,_,_,_,_,_,h,_⟩=>by simp [evT,ev,bd]at h
  | succ d =>
   refine Qg5 (Qcb ho (S.e d a a' ha) (S.e d b b' hb) (Qiu hb)) ?_
   rintro σ H Q ⟨α,ρ,hs,u,hs',rs,R,e,q⟩
   simp only [evT]at e
   obtain⟨u1,h1,e1,e⟩:=Qc e
   simp only [Option.map_eq_some_iff]at e
   obtain⟨c,e3,e⟩:=e
   cases e
   refine key d σ H _ α ρ hs _ u1 rs R e1 fun α' c' H' eu E' R'=>⟨c',rfl,?_⟩
   rw [eu]at e3
   cases e3
   exact q α' H' E' R'
theorem QfR{t a b:Expr}{p:Pos}{d:Nat}{ir:E}(S:Snd T A C X cf m)(h:Qf (m+1) C (.IfExp t a b p)=some ir):PE X (.IfExp t a b p) (TI T A X.K (ev T cf d ir)):=by
 refine QD fun d=>?_
 simp only [QmB,Option.bind_eq_some_iff]at h
 obtain⟨t',ht,a',ha,b',hb,h⟩:=h
 cases h
 refine Q6 (QaW (S.t d t t' ht).1 (S.e d a a' ha) (S.e d b b' hb)) ?_
 rintro σ H Q ⟨α,ρ,hs,u,hs',rs,R,e,q⟩
 simp only [ev]at e
 obtain⟨c,h1,e1,e⟩:=Qc e
 refine TIT.run rs R e1 fun α1 H1 E1 R1 rs1=>?_
 cases c with
 | true=>exact TI.run rs1 R1 e fun α2 v H2 E2 R2 r2 rs2=>q α2 v H2 (E1.trans E2 R2.h) R2 r2
 | false=>exact TI.run rs1 R1 e fun α2 v H2 E2 R2 r2 rs2=>q α2 v H2 (E1.trans E2 R2.h) R2 r2
theorem Yy{f:Ev}{ρ:Rho}:∀{es:List E} {hs hs':Hs} {us:List U},evs f ρ es hs=some (us,hs')->us.length=es.length
 | [],_,_,_,h=>by cases h;rfl
 | e::r,hs,hs',us,h=>by
  simp only [evs]at h
  obtain⟨u,h1,e1,h⟩:=Qc h
  obtain⟨ws,h2,e2,h⟩:=Qc h
  cases h
  simp [Yy e2]
theorem Zh{C:Ctx}:∀{m:Nat} {es:List Expr} {irs:List E},compA m C es=some irs->irs.length=es.length
 | 0,_,_,h=>by simp [compA]at h
 | m+1,[],_,h=>by cases h;rfl
 | m+1,e::r,irs,h=>by
  simp only [compA,Option.bind_eq_some_iff]at h
  obtain⟨e',he,r',hr,h⟩:=h
  cases h
  simp [Zh hr]
theorem Qe5(S:Snd T A C X cf m)(d:Nat)(es:List Expr)(irs:List E)(h:compA (m+1) C es=some irs):PA X es (TIA T A X.K (fun ρ hs=>evs (ev T cf d) ρ irs hs)):=by
 cases es with
 | nil =>
  cases h
  refine Qjh YN ?_
  rintro σ H Q ⟨α,ρ,hs,u,hs',rs,R,e,q⟩
  cases e
  exact q α [] H Ext.refl R .nil
 | cons e r =>
  simp only [compA,Option.bind_eq_some_iff]at h
  obtain⟨e',he,r',hr,h⟩:=h
  cases h
  refine Qjh (Zv (S.e d e e' he) (S.a d r r' hr) (Qk (QF he))) ?_
  rintro σ H Q ⟨α,ρ,hs,u,hs',rs,R,e,q⟩
  simp only [evs]at e
  obtain⟨u1,h1,e1,e⟩:=Qc e
  obtain⟨us,h2,e2,e⟩:=Qc e
  cases e
  refine TI.run rs R e1 fun α1 x H1 E1 R1 r1 rs1=>?_
  exact TIA.run rs1 R1 e2 fun α2 xs H2 E2 R2 r2 rs2=>q α2 _ H2 (E1.trans E2 R2.h) R2 (.cons (r1.mono E2.pre) r2)
theorem QhD(S:Snd T A C X cf m)(d:Nat)(e:Option Expr)(ir:Option E)(h:compO (m+1) C e=some ir):PO X e (TIO T A X.K (fun ρ hs=>evO (ev T cf d) ρ ir hs)):=by
 cases e with
 | none =>
  cases h
  intro pins s σ H Q I hw
  refine Qf5 pins s σ H Q I ?_
  obtain⟨α,ρ,hs,u,hs',rs,R,e,q⟩:=hw
  cases e
  exact q α H Ext.refl R
 | some e =>
  simp only [compO,Option.bind_eq_some_iff]at h
  obtain⟨e',he,h⟩:=h
  cases h
  intro pins s σ H Q I hw
  refine Qch (S.e d e e' he) pins s σ H Q I ?_
  obtain⟨α,ρ,hs,u,hs',rs,R,e,q⟩:=hw
  simp only [evO]at e
  obtain⟨u1,h1,e1,e⟩:=Qc e
  refine TI.run rs R e1 fun α1 x H1 E1 R1 r1 rs1=>?_
  split at e
  ·cases e
   obtain⟨i,rfl,c⟩:=r1
   cases c.exact
   exact⟨_,rfl,q α1 H1 E1 R1⟩
  ·cases e
theorem TIO.run{T:Tbl}{A:Adr}{K:PySem.W.Frag}{α:List Addr}{ρ:Rho}{σ:St}{hs h1:Hs}{H:Hp}{f:Rho->Hs->Option (Option Int×Hs)}{u:Option Int}{Q:Option Int->Hp->Prop}(rs:RS A α ρ σ)(rp:Rep T A K α hs H)(h:f ρ hs=some (u,h1))
  (k:∀α1 H1,Ext α α1 H H1->Rep T A K α1 h1 H1->RS A α1 ρ σ->Q u H1):TIO T A K f σ H Q :=
 ⟨α,ρ,hs,u,h1,rs,rp,h,fun α1 H1 e r=>k α1 H1 e r (rs.mono e.pre)⟩
theorem QfO{es:List Expr}{k:Nat}{p:Pos}{d:Nat}{ir:E}(S:Snd T A C X cf m)(h:Qf (m+1) C (.Tuple es k p)=some ir):PE X (.Tuple es k p) (TI T A X.K (ev T cf d ir)):=by
 refine QD fun d=>?_
 simp only [QmA]at h
 split at h
 case isFalse=>cases h
 rename_i hz
 simp only [Option.bind_eq_some_iff]at h
 obtain⟨es',he,h⟩:=h
 cases h
 refine Q6 (Qh8 (S.a d es es' he)) ?_
 rintro σ H Q ⟨α,ρ,hs,u,hs',rs,R,e,q⟩
 simp only [ev]at e
 obtain⟨us,h1,e1,e⟩:=Qc e
 cases e
 refine TIA.run rs R e1 fun α1 vs H1 E1 R1 r1 rs1=>⟨?_,fun p hp=>?_⟩
 ·rw [<-r1.length,Yy e1,Zh he];exact Nat.le_trans hz big
 ·obtain⟨R',E'⟩:=R1.new (o:=.tup us) hp ⟨_,Qe,RUs.mono Qy r1⟩
  exact q _ _ _ (E1.trans E' R'.h) R' ⟨p,by rw [<-R1.h.len];exact QH,rfl⟩
theorem QhH{es:List Expr}{p:Pos}{d:Nat}{ir:E}(S:Snd T A C X cf m)(h:Qf (m+1) C (.List es p)=some ir):PE X (.List es p) (TI T A X.K (ev T cf d ir)):=by
 refine QD fun d=>?_
 simp only [Qmz]at h
 split at h
 case isFalse=>cases h
 rename_i hz
 simp only [Option.bind_eq_some_iff]at h
 obtain⟨es',he,h⟩:=h
 cases h
 refine Q6 (Qia (S.a d es es' he)) ?_
 rintro σ H Q ⟨α,ρ,hs,u,hs',rs,R,e,q⟩
 simp only [ev]at e
 obtain⟨us,h1,e1,e⟩:=Qc e
 cases e
 refine TIA.run rs R e1 fun α1 vs H1 E1 R1 r1 rs1=>⟨?_,fun p hp=>?_⟩
 ·rw [<-r1.length,Yy e1,Zh he];exact Nat.le_trans hz big
 ·obtain⟨R',E'⟩:=R1.new (o:=.lst us) hp ⟨_,Qe,RUs.mono Qy r1⟩
  exact q _ _ _ (E1.trans E' R'.h) R' ⟨p,by rw [<-R1.h.len];exact QH,rfl⟩
theorem QfQ{a:Expr}{lo hi:Option Expr}{p p2:Pos}{d:Nat}{ir:E}(S:Snd T A C X cf m)(h:((Qf m C a).bind fun a'=>(compO m C lo).bind fun l=>(compO m C hi).bind fun h=>some (E.sl a' l h))=some ir):PE X (.Subscript a (.Slice lo hi none p2) p) (TI T A X.K (ev T cf d ir)):=by
 refine QD fun d=>?_
 simp only [Option.bind_eq_some_iff]at h
 obtain⟨a',ha,l',hl,h',hh,h⟩:=h
 cases h
 refine Q6 (Qeg (sl_list.or (sl_tup.or Qhy)) (S.e d a a' ha) (S.o d lo l' hl) (S.o d hi h' hh)) ?_
 rintro σ H Q ⟨α,ρ,hs,u,hs',rs,R,e,q⟩
 simp only [ev]at e
 obtain⟨u1,h1,e1,e⟩:=Qc e
 obtain⟨u2,h2,e2,e⟩:=Qc e
 obtain⟨u3,h3,e3,e⟩:=Qc e
 refine TI.run rs R e1 fun α1 x H1 E1 R1 r1 rs1=>?_
 refine TIO.run rs1 R1 e2 fun α2 H2 E2 R2 rs2=>?_
 refine TIO.run rs2 R2 e3 fun α3 H3 E3 R3 rs3=>?_
 exact Qhz e ((r1.mono E2.pre).mono E3.pre) R3 fun α4 z H4 E4 R4 r4=>q α4 z H4 (((E1.trans E2 R2.h).trans E3 R3.h).trans E4 R4.h) R4 r4
theorem Qgy{a b:Expr}{a' b':E}{p:Pos}{d:Nat}(hu:X.A.units+1<cLine)(tx:Txt T A X.K X.mg)(ha:PE X a (TI T A X.K (ev T cf d a')))(hb:PE X b (TI T A X.K (ev T cf d b')))(hs:Yl b=true):PE X (.Subscript a b p) (TI T A X.K (ev T cf (d+1) (.ix a' b'))):=by
 refine Q6 (Qkg (ix_seq.or (Qgx hu)) ha hb (YM hs)) ?_
 rintro σ H Q ⟨α,ρ,hs,u,hs',rs,R,e,q⟩
 simp only [ev]at e
 obtain⟨u1,h1,e1,e⟩:=Qc e
 obtain⟨u2,h2,e2,e⟩:=Qc e
 simp only [Option.map_eq_some_iff]at e
 obtain⟨x,e3,e⟩:=e
 cases e
 refine TI.run rs R e1 fun α1 x H1 E1 R1 r1 rs1=>?_
 refine TI.run rs1 R1 e2 fun α2 y H2 E2 R2 r2 rs2=>?_
 exact QfJ tx e3 (r1.mono E2.pre) r2 R2 fun z rz=>q α2 z H2 (E1.trans E2 R2.h) R2 rz
theorem RF.look{α:List Addr}{x:Str}{k:Nat}{u:U}(hk:T.fns'[k]?=some x)(nd:T.fns'.Nodup):∀{fs:List (Nat×U)} {fv:List (Str×V)},RF T A α fs fv->fs.lookup k=some u->∃v,fv.lookup x=some v/\RU A α u v
 | _,_,.nil,h=>by cases h
 | _,_,.cons (a:=p) (b:=q) r t,h=>by
  obtain⟨pk,pu⟩:=p
  obtain⟨qx,qv⟩:=q
  rw [List.lookup_cons]at h ⊢
  by_cases e:k=pk
  ·subst e
   rw [beq_self_eq_true]at h
   cases h
   have e2:x=qx:=Option.some.inj (hk.symm.trans r.1)
   subst e2
   rw [beq_self_eq_true]
   exact⟨qv,rfl,r.2⟩
  ·have n1:(k==pk)=false:=by simpa using e
   rw [n1]at h
   have n2:(x==qx)=false:=by
    rw [beq_eq_false_iff_ne]
    rintro rfl
    obtain⟨l1,q1⟩:=List.getElem?_eq_some_iff.mp hk
    obtain⟨l2,q2⟩:=List.getElem?_eq_some_iff.mp r.1
    exact e ((List.getElem_inj nd).mp (q1.trans q2.symm))
   rw [n2]
   exact RF.look hk nd t h
theorem QmM{e:Expr}{t t':TE}(h:PE X e t)(h':PE X e t'):PE X e (fun σ H Q=>t σ H Q\/t' σ H Q):=fun pins s σ H Q I z=>z.elim (h pins s σ H Q I) (h' pins s σ H Q I)
theorem QhJ{a:Expr}{f:Str}{p:Pos}{d:Nat}{ir:E}(g:GX T A C X)(S:Snd T A C X cf m)(h:Qf (m+1) C (.Attribute a f p)=some ir):PE X (.Attribute a f p) (TI T A X.K (ev T cf d ir)):=by
 refine QD fun d=>?_
 simp only [Qmx]at h
 split at h
 ·rename_i hn
  simp only [Option.bind_eq_some_iff]at h
  obtain⟨a',ha,k,hk,h⟩:=h
  cases h
  have hk':T.fns'[k]?=some f:=by rw [<-g.CT];exact Zf hk
  refine Q6 (QmM (Qib (S.e d a a' ha) (Zu hn)) (Qgc (S.e d a a' ha) (Zu hn))) ?_
  rintro σ H Q ⟨α,ρ,hs,u,hs',rs,R,e,q⟩
  simp only [ev]at e
  obtain⟨u1,h1,e1,e⟩:=Qc e
  split at e
  ·rename_i n
   split at e
   ·rename_i c fs eo
    refine .inl (TI.run rs R e1 fun α1 x H1 E1 R1 r1 rs1=>?_)
    obtain⟨pa,hpa,rfl⟩:=r1
    simp only [Option.map_eq_some_iff]at e
    obtain⟨w,el,e⟩:=e
    cases e
    obtain⟨dx,fv,q1,rf,lc⟩:=R1.h.ob n pa _ hpa eo
    obtain⟨v,l1,rv⟩:=RF.look hk' g.txt.fd rf el
    have cl:=g.txt.cl c _ (List.getElem?_eq_getElem lc)
    exact⟨pa,A.c c,dx,fv,v,rfl,q1,cl.cls,cl.nf f (List.mem_of_getElem? hk'),l1,q α1 v H1 E1 R1 rv⟩
   ·rename_i c eo
    rw [Option.ite_none_right_eq_some]at e
    obtain⟨hc,e⟩:=e
    cases e
    refine .inr (TI.run rs R e1 fun α1 x H1 E1 R1 r1 rs1=>?_)
    obtain⟨pa,hpa,rfl⟩:=r1
    obtain⟨dd,q1,l,ef⟩:=R1.h.ob n pa _ hpa eo
    obtain⟨Y,z⟩:=g.txt.er c l
    obtain⟨z1,od,y,rfl,hy,hd⟩:=ef k hc
    obtain rfl:y=f:=Option.some.inj (hy.symm.trans hk')
    rcases z with⟨z,_⟩ | ⟨k',y',_,uq,hy',hh,hf,_⟩
    ·rw [z k]at hc;cases hc
    ·cases uq k hc
     obtain rfl:y'=y:=Option.some.inj (hy'.symm.trans hk')
     exact⟨pa,A.c c,z1,od,_,.non,rfl,q1,hd,Y,hh,hf,List.lookup_cons_self,q α1 .non H1 E1 R1 rfl⟩
   ·cases e
  ·cases e
 ·cases h
end
end Iv
namespace Iv
open PySem PySem.Spec PyProof.Rows L2
section
variable {X:Cx}{T:Tbl}{A:Adr}{C:Ctx}{cf:Cf}{m k:Nat}
theorem QdV{vs:List (Key×Value)}{y:U}{x:U}{yv:V}{α:List Addr}(ky:Qbx y=true)(ry:RU A α y yv):∀{kvs:List (U×U)},Paired (fun(p:U×U) (q:Key×Value)=>Qgw p.1 q.1/\∃v,RU A [] p.2 v/\RelV v q.2) kvs vs->Jd kvs y=some x ->
  ∃key v u,yv=kV key/\valueAt vs key=some u/\RU A [] x v/\RelV v u:=by
 obtain⟨key,hy,hk⟩:∃key,yv=kV key/\Qgw y key:=by
  cases y with
  | int i m =>
   cases m with
   | zero=>obtain⟨j,rfl,c⟩:=ry;cases c.exact;exact⟨.inl i,rfl,rfl⟩
   | succ m=>cases ky
  | str z=>cases(show yv=_ from ry);exact⟨.inr ⟨z.toArray⟩,rfl,rfl⟩
  | _=>cases ky
 have inj:∀{p:U} {q:Key},Qgw p q->(p=y↔q=key):=by
  intro p q hp
  cases y with
  | int i m =>
   cases m with
   | succ m=>cases ky
   | zero =>
    cases(show key=_ from hk)
    cases p with
    | int j n =>
     cases n with
     | succ n=>exact(show False from hp).elim
     | zero=>cases(show q=_ from hp);exact⟨fun e=>(by cases e;rfl),fun e=>(by cases e;rfl)⟩
    | str z=>cases(show q=_ from hp);exact⟨fun e=>(by cases e),fun e=>(by cases e)⟩
    | _=>exact(show False from hp).elim
  | str z =>
   cases(show key=_ from hk)
   cases p with
   | int j n =>
    cases n with
    | succ n=>exact(show False from hp).elim
    | zero=>cases(show q=_ from hp);exact⟨fun e=>(by cases e),fun e=>(by cases e)⟩
   | str z' =>
    cases(show q=_ from hp)
    refine⟨fun e=>(by cases e;rfl),fun e=>?_⟩
    have e1:=Sum.inr.inj e
    have e2:=congrArg (fun s:Str=>s.cps.toList) e1
    have e3:z'=z:=by simpa using e2
    rw [e3]
   | _=>exact(show False from hp).elim
  | _=>cases ky
 intro kvs r
 induction r with
 | nil=>intro h;cases h
 | @cons p q ps qs hpq t ih =>
  intro h
  obtain⟨pk,pv⟩:=p
  obtain⟨qk,qv⟩:=q
  obtain⟨h1,v,h2,h3⟩:=hpq
  simp only [Jd]at h
  by_cases e:pk=y
  ·rw [if_pos e]at h
   cases h
   have e2:qk=key:=(inj h1).mp e
   exact⟨key,v,qv,hy,by simp [valueAt,e2],h2,h3⟩
  ·rw [if_neg e]at h
   obtain⟨key',v',u',g1,g2,g3,g4⟩:=ih h
   have e1:key'=key:=by
    rw [hy]at g1
    cases key<;>cases key'<;>simp_all [kV]
   subst e1
   have e2:¬qk=key':=fun z=>e ((inj h1).mpr z)
   refine⟨key',v',u',g1,?_,g3,g4⟩
   simp only [valueAt,List.find?_cons]
   rw [decide_eq_false e2]
   exact g2
theorem QjS{x:Str}{b:Expr}{p pos:Pos}{i d:Nat}{b':E}(g:GX T A C X)(hb:PE X b (TI T A X.K (ev T cf d b')))(hs:Yl b=true)(hg:ZQ C x=true)(hn:x≠"__debug__") (hx:C.gl.lookup x=some (.con i)):
  PE X (.Subscript (.Name x p) b pos) (TI T A X.K (ev T cf (d+1) (.tab i b'))):=by
 intro pins s σ H Q I h
 obtain⟨α,ρ,hs',u,hs2,rs,R,e,q⟩:=h
 simp only [ev]at e
 obtain⟨w,h1,e1,e⟩:=Qc e
 simp only [Option.map_eq_some_iff]at e
 obtain⟨z,e2,e⟩:=e
 cases e
 unfold Qk4 at e2
 split at e2
 case h_2=>cases e2
 rename_i kvs ec
 split at e2
 case isFalse=>cases e2
 rename_i ky
 obtain⟨vs,_,hd,hp⟩:=g.tab i kvs ec
 refine QfK PySem.F.slot_dict_getitem.lookup (YM hs) (Zw I (Zc g hg) (g.gco x i hx) ?_ (Q3 hn))
 refine thn (hb pins s σ H (fun y H1=>∃α1,Ext α α1 H H1/\Rep T A X.K α1 hs2 H1/\RU A α1 w y) I (TI.run rs R e1 fun α1 y H1 E1 R1 r1 rs1=>⟨α1,E1,R1,r1⟩)) fun iv s1 ⟨y,H1,I1,ry,α1,E1,R1,r1⟩=>?_
 obtain⟨key,v,u',ey,ev',rv,rl⟩:=QdV ky r1 hp e2
 have dd:=hd s1.heap I1.kIn
 subst ey
 exact⟨dd.typeIs,wpAny_getItem_of (JJ ry) dd.mapOf ev' ⟨v,H1,I1.tok _,rl,q α1 v H1 E1 R1 (RU.mono (fun n a e=>by simp at e) rv)⟩⟩
theorem Qe2{α:List Addr}{us:List U}{vs:List V}{hs hs':Hs}{H:Hp}{u:U}{f:Nat}{Q:VK}{E:XK}(F:Fc X T A cf k)(r:RUs A α us vs)(R:Rep T A X.K α hs H)(e:cf f us hs=some (u,hs'))
  (q:∀α' v H',Ext α α' H H'->Rep T A X.K α' hs' H'->RU A α' u v->Q v H'):spC T A X.K cf f vs H Q E:=⟨α,us,hs,u,hs',r,R,e,F.some f us hs _ e,q⟩
theorem Qe4{x:Str}{args:List Expr}{p pos:Pos}{i d:Nat}{es:List E}(g:GX T A C X)(F:Fc X T A cf k)(hr:Room k X.A)(S:Snd T A C X cf m)(hg:ZQ C x=true)(hn:x≠"__debug__") (hx:C.gl.lookup x=some (.fn i)) (ha:compA m C args=some es):
  PE X (.Call (.Name x p) args [] pos) (TI T A X.K (ev T cf (d+1) (.call i es))):=by
 cases hF:T.fns[i]? with
 | none =>
  refine YD ?_
  rintro σ H Q ⟨α,ρ,hs,u,hs',rs,R,e,q⟩
  simp only [ev]at e
  obtain⟨us,h1,e1,e⟩:=Qc e
  obtain⟨F',h,_⟩:=F.some _ _ _ _ e
  rw [hF]at h
  cases h
 | some Fn =>
  obtain⟨fd,G,b,kp⟩:=F.ok i Fn hF
  have pa:=S.a d args es ha
  have key:∀σ H Q,TI T A X.K (ev T cf (d+1) (.call i es)) σ H Q->QdZ (spC T A X.K cf i) [] E0 (TIA T A X.K (fun ρ hs=>evs (ev T cf d) ρ es hs)) σ H Q:=by
   rintro σ H Q ⟨α,ρ,hs,u,hs',rs,R,e,q⟩
   simp only [ev]at e
   obtain⟨us,h1,e1,e⟩:=Qc e
   refine TIA.run rs R e1 fun α1 vs H1 E1 R1 r1 rs1=>?_
   rw [List.append_nil]
   exact Qe2 F r1 R1 e fun α2 v H2 E2 R2 r2=>q α2 v H2 (E1.trans E2 R2.h) R2 r2
  cases args with
  | nil =>
   have ee:es=[]:=by
    have:=Zh ha
    simpa using this
   subst ee
   refine Q6 (QaX G hr (Zc g hg) (g.gfn x i hx) kp b .nil Qcs (Q3 hn)) fun σ H Q h=>?_
   have h2:=key σ H Q h
   obtain⟨α,ρ,hs,us,hs',rs,R,e,q⟩:=h2
   cases e
   exact q α [] H Ext.refl R .nil
  | cons a r=>exact Q6 (Qcr G hr (Zc g hg) (g.gfn x i hx) kp b .nil Qcs pa (Q3 hn) (Qk (Qo ha a (List.mem_cons_self ..))) (Zn fun z hz=>Qo ha z (List.mem_cons_of_mem _ hz))) key
theorem Qc4{f:Ev}{ρ:Rho}:∀{a b:List E} {us:List U} {hs h2:Hs},evs f ρ (a++b) hs=some (us,h2)->∃ua ub h1,evs f ρ a hs=some (ua,h1)/\evs f ρ b h1=some (ub,h2)/\us=ua++ub
 | [],b,us,hs,h2,h=>⟨[],us,hs,rfl,h,rfl⟩
 | e::a,b,us,hs,h2,h=>by
  have h:bd (f e ρ hs) (fun u h1=>bd (evs f ρ (a++b) h1) fun us h2=>some (u::us,h2))=some (us,h2):=h
  obtain⟨u,h1,e1,h⟩:=Qc h
  obtain⟨ws,h3,e2,h⟩:=Qc h
  cases h
  obtain⟨ua,ub,h4,e3,e4,rfl⟩:=Qc4 e2
  refine⟨u::ua,ub,h4,?_,e4,rfl⟩
  show bd (f e ρ hs) (fun u h1=>bd (evs f ρ a h1) fun us h2=>some (u::us,h2))=_
  rw [e1]
  show bd (evs f ρ a h1) _=_
  rw [e3]
  rfl
theorem Qc3{d:Nat}{ρ:Rho}:∀{cs us:List U} {hs h2:Hs},evs (ev T cf d) ρ (cs.map .c) hs=some (us,h2)->us=cs/\h2=hs
 | [],us,hs,h2,h=>by cases h;exact⟨rfl,rfl⟩
 | c::cs,us,hs,h2,h=>by
  have h:bd (ev T cf d (.c c) ρ hs) (fun u h1=>bd (evs (ev T cf d) ρ (cs.map .c) h1) fun us h2=>some (u::us,h2))=some (us,h2):=h
  obtain⟨u,h1,e1,h⟩:=Qc h
  obtain⟨ws,h3,e2,h⟩:=Qc h
  cases h
  cases d with
  | zero=>simp [ev]at e1
  | succ d =>
   simp only [ev]at e1
   cases e1
   obtain⟨rfl,rfl⟩:=Qc3 e2
   exact⟨rfl,rfl⟩
theorem RUs.app{α:List Addr}{us ws:List U}{vs zs:List V}(a:RUs A α us vs)(b:RUs A α ws zs):RUs A α (us++ws) (vs++zs):=a.append b
theorem Vals.dropN{vs:List V}{us:List Value}(r:Vals vs us):∀n,Vals (vs.drop n) (us.drop n):=fun n=>by
 induction r generalizing n with
 | nil=>simp;exact .nil
 | cons a t ih =>
  cases n with
  | zero=>exact .cons a t
  | succ n=>exact ih n
theorem QfT{x:Str}{args:List Expr}{p pos:Pos}{i d:Nat}{es:List E}{ir:E}(g:GX T A C X)(F:Fc X T A cf k)(hr:Room k X.A)(S:Snd T A C X cf m)(hg:ZQ C x=true)(hn:x≠"__debug__") (hx:C.gl.lookup x=some (.fn i)) (ha:compA m C args=some es) (h:Qjm C i es=some ir):
  PE X (.Call (.Name x p) args [] pos) (TI T A X.K (ev T cf (d+1) ir)):=by
 unfold Qjm at h
 rw [g.CT]at h
 split at h
 ·cases h
  exact Qe4 g F hr S hg hn hx ha
 rename_i D hD
 split at h
 case isFalse=>cases h
 cases h
 generalize D.ds.length-(D.np-es.length)=n
 cases hF:T.fns[i]? with
 | none =>
  refine YD ?_
  rintro σ H Q ⟨α,ρ,hs,u,hs',rs,R,e,q⟩
  simp only [ev]at e
  obtain⟨us,h1,e1,e⟩:=Qc e
  obtain⟨F',h,_⟩:=F.some _ _ _ _ e
  rw [hF]at h
  cases h
 | some Fn =>
  obtain⟨fd,G,kp,ds,dvs,rd,vd,hb,_⟩:=F.df i D Fn hD hF
  have pa:=S.a d args es ha
  have key:∀σ H Q,TI T A X.K (ev T cf (d+1) (.call i (es++(D.ds.drop n).map .c))) σ H Q->QdZ (spC T A X.K cf i) (dvs.drop n) E0 (TIA T A X.K (fun ρ hs=>evs (ev T cf d) ρ es hs)) σ H Q:=by
   rintro σ H Q ⟨α,ρ,hs,u,hs',rs,R,e,q⟩
   simp only [ev]at e
   obtain⟨us,h1,e1,e⟩:=Qc e
   obtain⟨ua,ub,h2,e2,e3,rfl⟩:=Qc4 e1
   obtain⟨rfl,rfl⟩:=Qc3 e3
   refine TIA.run rs R e2 fun α1 vs H1 E1 R1 r1 rs1=>?_
   exact Qe2 F (r1.app (RUs.mono (fun n a e=>by simp at e) (RUs.drop n rd))) R1 e fun α2 v H2 E2 R2 r2=>q α2 v H2 (E1.trans E2 R2.h) R2 r2
  cases args with
  | nil =>
   have ee:es=[]:=by
    have:=Zh ha
    simpa using this
   subst ee
   refine Q6 (QaX G hr (Zc g hg) (g.gfn x i hx) kp (hb n) (Vals.dropN vd n) Qcs (Q3 hn)) fun σ H Q h=>?_
   have h2:=key σ H Q h
   obtain⟨α,ρ,hs,us,hs',rs,R,e,q⟩:=h2
   cases e
   exact q α [] H Ext.refl R .nil
  | cons a r=>exact Q6 (Qcr G hr (Zc g hg) (g.gfn x i hx) kp (hb n) (Vals.dropN vd n) Qcs pa (Q3 hn) (Qk (Qo ha a (List.mem_cons_self ..))) (Zn fun z hz=>Qo ha z (List.mem_cons_of_mem _ hz))) key
end
end Iv
namespace Iv
open PySem PySem.Spec PyProof.Rows L2
section
variable {X:Cx}{T:Tbl}{A:Adr}{C:Ctx}{cf:Cf}{m k:Nat}
theorem QaN{env:Env}{pos:Pos}:∀{es:List Expr},J1 es->(backTo pos (starEach es env)).all (fun x=>!x.1)=true
 | [],_=>rfl
 | e::r,h=>by
  rw [Qk (h e (List.mem_cons_self ..))]
  have ih:=QaN (env:=env) (pos:=pos) (es:=r) fun x hx=>h x (List.mem_cons_of_mem _ hx)
  unfold backTo at ih ⊢
  rw [List.map_cons,List.all_cons,ih]
  rfl
theorem QiM{env:Env}{pos:Pos}{e:Expr}{es:List Expr}(hn:J1 (e::es))(hl:(e::es).length<29):((backTo pos (starEach (e::es) env)).all (fun x=>!x.1)&&(backToKw pos (keywordEach [] env)).all (fun x=>x.1.isSome)
   && decide ((e::es).length+([]:List Keyword).length+(if([]:List Keyword).isEmpty then 0 else 1) < 30))=true:=by
 rw [QaN hn]
 have:(e::es).length+([]:List Keyword).length+(if([]:List Keyword).isEmpty then 0 else 1) < 30:=by
  simp only [List.length_nil,List.isEmpty_nil,if_true]
  lia
 rw [decide_eq_true this]
 rfl
theorem QgW{o:Expr}{x:Str}{args:List Expr}{p q:Pos}{d:Nat}{o':E}{es:List E}{b:Bm}{id ty:String}(S:Snd T A C X cf m)(B:BmS X T A b id)(pa:PlainAttrs ty)(slot:Slot ty x id)(hty:typeOf (.builtin id)=pure (.type "method_descriptor"))
  (ty:∀{u:U} {hs:Hs} {α:List Addr} {v:V} {H:Hp},Qg8 b u hs=true->RU A α u v->Rep T A X.K α hs H->L2.tyV X.K ty v H) (h1:ZP o=true) (h2:(p.endLine==q.line)=true) (h3:args.length<29)
  (ho:Qf m C o=some o') (ha:compA m C args=some es):PE X (.Call (.Attribute o x p) args [] q) (TI T A X.K (ev T cf (d+1) (.bm b o' es))):=by
 obtain⟨r,hm,hB⟩:=B
 have hns:=Qo ha
 cases args with
 | nil =>
  have ee:es=[]:=by
   have:=Zh ha
   simpa using this
  subst ee
  refine Q6 (Qic pa slot hty hm (S.e d o o' ho) (Zu h1) h2) ?_
  rintro σ H Q ⟨α,ρ,hs,u,hs',rs,R,e,q⟩
  simp only [ev,evs]at e
  obtain⟨u1,h1',e1,e⟩:=Qc e
  split at e
  case isFalse=>cases e
  rename_i il
  obtain⟨us,h2',e2,e⟩:=Qc e
  cases e2
  exact TI.run rs R e1 fun α1 v H1 E1 R1 r1 rs1=>⟨ty il r1 R1,hB e r1 .nil R1 fun α2 v2 H2 E2 R2 r2=>q α2 v2 H2 (E1.trans E2 R2.h) R2 r2⟩
 | cons a t =>
  refine Q6 (Qkh pa slot hty hm (S.e d o o' ho) (S.a d (a::t) es ha) (Zu h1) (QiM hns h3) h2 (Qk (hns a (List.mem_cons_self ..))) (Zn fun z hz=>hns z (List.mem_cons_of_mem _ hz))) ?_
  rintro σ H Q ⟨α,ρ,hs,u,hs',rs,R,e,q⟩
  simp only [ev]at e
  obtain⟨u1,h1',e1,e⟩:=Qc e
  split at e
  case isFalse=>cases e
  rename_i il
  obtain⟨us,h2',e2,e⟩:=Qc e
  exact TI.run rs R e1 fun α1 v H1 E1 R1 r1 rs1=>⟨ty il r1 R1,TIA.run rs1 R1 e2 fun α2 vs H2 E2 R2 r2 rs2=>hB e (r1.mono E2.pre) r2 R2 fun α3 v2 H3 E3 R3 r3=>q α3 v2 H3 ((E1.trans E2 R2.h).trans E3 R3.h) R3 r3⟩
noncomputable def kdB:Bm->String
 | .setdef=>"dict"
 | .get=>"dict"
 | .update=>"dict"
 | .join=>"str"
 | .split=>"str"
 | .find=>"str"
 | .index=>"str"
 | _=>"list"
theorem QhT{b:Bm}{u:U}{hs:Hs}{α:List Addr}{v:V}{H:Hp}(e:Qg8 b u hs=true)(r:RU A α u v)(R:Rep T A X.K α hs H):L2.tyV X.K (kdB b) v H:=by
 cases u with
 | ref n =>
  obtain⟨a,ha,rfl⟩:=r
  simp only [Qg8]at e
  split at e
  ·rename_i xs eo
   obtain⟨vs,q,_⟩:=R.h.ob n a _ ha eo
   have:kdB b="list":=by cases b<;>first | rfl | cases e
   rw [this]
   exact .inl ⟨rfl,vs,SqL.of q⟩
  ·rename_i kvs eo
   obtain⟨kv,q,_⟩:=R.h.ob n a _ ha eo
   have:kdB b="dict":=by cases b<;>first | rfl | cases e
   rw [this]
   exact .inr (.inr (.inl ⟨rfl,.inl ⟨kv,q⟩⟩))
  ·cases e
 | str x =>
  cases(show v=_ from r)
  have:kdB b="str":=by cases b<;>first | rfl | cases e
  exact this
 | _=>cases e
theorem Ql2{o:Expr}{x:Str}{args:List Expr}{p q:Pos}{d:Nat}{o':E}{es:List E}{b:Bm}(hu:X.A.units+1<cLine)(tx:Txt T A X.K X.mg)(S:Snd T A C X cf m)(hb:Qjt x=some b)(h1:ZP o=true)(h2:(p.endLine==q.line)=true)(h3:args.length<29)
  (ho:Qf m C o=some o') (ha:compA m C args=some es):PE X (.Call (.Attribute o x p) args [] q) (TI T A X.K (ev T cf (d+1) (.bm b o' es))):=by
 unfold Qjt at hb
 split at hb
 ·rename_i e;subst e;cases hb;exact QgW S QbI PySem.F.plainAttrs_list PySem.F.slot_list_append PySem.F.type_list_append (fun e r R=>QhT e r R) h1 h2 h3 ho ha
 unfold Qi5 at hb
 ·cases hb
theorem YB{args:List Expr}{d:Nat}{es:List E}{b:Bi}{fv:Value}{r:List V->Hp->VK->Prop}{e0:Expr}(hB:∀{α:List Addr} {us:List U} {u':U} {hs hs':Hs} {vs:List V} {H:Hp} {Q:VK},biU T b us hs=some (u',hs')->RUs A α us vs->Rep T A X.K α hs H ->
   (∀α' v' H',Ext α α' H H'->Rep T A X.K α' hs' H'->RU A α' u' v'->Q v' H')->r vs H Q)
  (h:PE X e0 (tCB r (TIA T A X.K (fun ρ hs=>evs (ev T cf d) ρ es hs)))):PE X e0 (TI T A X.K (ev T cf (d+1) (.bi b es))):=by
 refine Q6 h ?_
 rintro σ H Q ⟨α,ρ,hs,u,hs',rs,R,e,q⟩
 simp only [ev]at e
 obtain⟨us,h1,e1,e⟩:=Qc e
 exact TIA.run rs R e1 fun α1 vs H1 E1 R1 r1 rs1=>hB e r1 R1 fun α2 v2 H2 E2 R2 r2=>q α2 v2 H2 (E1.trans E2 R2.h) R2 r2
theorem QgY{b:Bi}{hs:Hs}:biU T b [] hs=none:=by cases b<;>rfl
theorem Ql3{x:Str}{args:List Expr}{p pos:Pos}{d:Nat}{es:List E}{b:Bi}(g:GX T A C X)(hh:hdC C=false)(hu:X.A.units+2<cLine)(S:Snd T A C X cf m)(hg:ZQ C x=true)(hn:x≠"__debug__") (hn2:x≠"__name__") (hx:Qjv C x=some b) (ha:compA m C args=some es):
  PE X (.Call (.Name x p) args [] pos) (TI T A X.K (ev T cf (d+1) (.bi b es))):=by
 have hns:=Qo ha
 cases args with
 | nil =>
  refine YD ?_
  rintro σ H Q ⟨α,ρ,hs,u,hs',rs,R,e,q⟩
  have ee:es=[]:=by
   have:=Zh ha
   simpa using this
  subst ee
  simp [ev,evs,bd,QgY]at e
 | cons a t =>
  unfold Qjv at hx
  split at hx
  ·cases hx
  split at hx
  ·cases hx
  rename_i hl
  have hm:X.mg x=none:=g.blt x hl
  have pa:=S.a d (a::t) es ha
  have st:=Qk (env:=X.env) (es:=t) (hns a (List.mem_cons_self ..))
  have sa:=Zn (env:=X.env) (pos:=pos) (es:=t) fun z hz=>hns z (List.mem_cons_of_mem _ hz)
  split at hx
  ·rename_i e;subst e;cases hx
   obtain⟨r,hc,hB⟩:=Qg0 (X:=X) (A:=A) g.txt
   exact YB (fv:=.builtin "len") (args:=[]) hB (Yk hc (Zc g hg) hm (by decide +kernel) pa hn2 (Q3 hn) st sa)
  split at hx
  ·rename_i e;subst e;cases hx
   obtain⟨r,hc,hB⟩:=Qdy (X:=X) (A:=A) (T:=T)
   exact YB (fv:=.none) (args:=[]) hB (Jw hc (Zc g hg) hm (by decide +kernel) pa hn2 (Q3 hn) st sa)
  split at hx
  ·rename_i e;subst e;cases hx
   obtain⟨r,hc,hB⟩:=QeP (X:=X) (A:=A) g.txt (g.calm hh)
   exact YB (fv:=.none) (args:=[]) hB (Jw hc (Zc g hg) hm (by decide +kernel) pa hn2 (Q3 hn) st sa)
  split at hx
  ·rename_i e;subst e;cases hx
   obtain⟨r,hc,hB⟩:=QgZ (X:=X) (A:=A) g.txt (g.calm hh)
   exact YB (fv:=.builtin "sum") (args:=[]) hB (Yk hc (Zc g hg) hm (by decide +kernel) pa hn2 (Q3 hn) st sa)
  split at hx
  ·rename_i e;subst e;cases hx
   obtain⟨r,hc,hB⟩:=Qg1 (X:=X) (A:=A) g.txt (g.calm hh)
   exact YB (fv:=.builtin "any") (args:=[]) hB (Yk hc (Zc g hg) hm (by decide +kernel) pa hn2 (Q3 hn) st sa)
  unfold Qi6 at hx
  ·cases hx
theorem Ql1 {t : Str} {ty : Ty} {p : Pos} (g : GX T A C X) (hg : ZQ C t = true) (hn : t ≠ "__debug__") (hn2 : t ≠ "__name__") (h : Qhk C t = some ty) : ∃ v, PE X (.Name t p) (tC v) /\ QkU v = some (tyW A ty) := by
 unfold Qhk at h
 split at h
 ·rename_i i e
  cases h
  exact⟨.ref (A.c i),Qai (Zc g hg) (g.gcl t i e) rfl (Q3 hn),rfl⟩
 ·cases h
 ·split at h
  ·cases h
  rename_i e
  have hm:X.mg t=none:=g.blt t e
  have fin:∀n:String,bootBuiltins t=some (.type n)->PE X (.Name t p) (tC (.ty n)):=fun n hb=>Qgf (Zc g hg) hm hb rfl hn2 (Q3 hn)
  split at h
  ·rename_i e;subst e;cases h;exact⟨_,fin "int" (by decide +kernel),rfl⟩
  split at h
  ·rename_i e;subst e;cases h;exact⟨_,fin "str" (by decide +kernel),rfl⟩
  split at h
  ·rename_i e;subst e;cases h;exact⟨_,fin "bool" (by decide +kernel),rfl⟩
  split at h
  ·rename_i e;subst e;cases h;exact⟨_,fin "list" (by decide +kernel),rfl⟩
  split at h
  ·rename_i e;subst e;cases h;exact⟨_,fin "tuple" (by decide +kernel),rfl⟩
  split at h
  ·rename_i e;subst e;cases h;exact⟨_,fin "dict" (by decide +kernel),rfl⟩
  split at h
  ·rename_i e;subst e;cases h;exact⟨_,fin "ValueError" (by decide +kernel),rfl⟩
  ·cases h
theorem QjV{a:Expr}{t:Str}{ty:Ty}{a':E}{p p1 pos:Pos}{d:Nat}(g:GX T A C X)(S:Snd T A C X cf m)(hi:ZQ C "isinstance"=true) (hl:¬C.bl.contains ("isinstance":Str)=false) (hg:ZQ C t=true) (hn:t≠"__debug__") (hn2:t≠"__name__") (h:Qhk C t=some ty) (ha:Qf m C a=some a'):
  PE X (.Call (.Name "isinstance" p) [a,.Name t p1] [] pos) (TI T A X.K (ev T cf (d+1) (.isi a' ty))):=by
 obtain⟨v,hv,hc⟩:=Ql1 (p:=p1) g hg hn hn2 h
 have s1:starEach [a,.Name t p1] X.env=(false,eval a X.env)::starEach [.Name t p1] X.env:=Qk (QF ha)
 refine Q6 (Yk QeM (Zc g hi) (g.blt _ hl) (by decide +kernel) (Zv (S.e d a a' ha) (Zv hv YN) s1) (by decide) (by decide) s1 rfl) ?_
 rintro σ H Q ⟨α,ρ,hs,u,hs',rs,R,e,q⟩
 simp only [ev]at e
 obtain⟨u1,h1,e1,e⟩:=Qc e
 simp only [Option.map_eq_some_iff]at e
 obtain⟨b,e2,e⟩:=e
 cases e
 refine TI.run rs R e1 fun α1 x H1 E1 R1 r1 rs1=>?_
 obtain⟨tv,h1,h2⟩:=QiG g.txt e2 r1 R1
 exact⟨x,v,_,tv,b,rfl,hc,h1,h2,q α1 _ H1 E1 R1 rfl⟩
end
end Iv
namespace L2
open PySem PySem.Spec PyProof.Rows
open Sem (wp)
structure Nx(prog:Program)(w:World)(it l:Addr)(P:Nat->Heap->Prop)(L:Array Value->Heap->Prop):Prop where
 item:∀(A:Around) (E:Value->Shared->Prop) (s:Shared) (k:Nat) (xs:Array Value) (x:Value) (Q:Value->Shared->Prop),P k s.heap->L xs s.heap->xs[k]?=some x->(∀h',P (k+1) h'->Heap.SameBut it s.heap h'->Q x { s with heap:=h' }) ->
  wpAny (model prog w) A (Builtin.SmallTypes.nextOf (.ref it)) Q E s
 done:∀(A:Around) (E:Value->Shared->Prop) (s:Shared) (k:Nat) (xs:Array Value) (Q:Value->Shared->Prop),A.handled=none->P k s.heap->L xs s.heap->xs[k]?=none ->
  (∀ h' e, Heap.ExtBut it s.heap h' -> (∃ o, h'.get? e = some o /\ o.cls = .type "StopIteration") -> E (.ref e) { s with heap := h' }) -> wpAny (model prog w) A (Builtin.SmallTypes.nextOf (.ref it)) Q E s
 keepP:∀k h h',P k h->(∀o,h.get? it=some o->h'.get? it=some o)->P k h'
 keepL:∀xs h h',L xs h->(∀o,h.get? l=some o->h'.get? l=some o)->L xs h'
 obj:∀k h,P k h->∃o vs,h.get? it=some o/\o.data=.fields vs
theorem Qgq(prog:Program)(w:World)(it l:Addr):Nx prog w it l (fun k h=>h.IsListIter it l k) (fun xs h=>h.IsList l xs) where
 item:=fun A E s k xs x Q p q e h=>wpAny_nextOf_list_item p q e h
 done:=fun A E s k xs Q hh p q e h=>wpAny_nextOf_list_end hh p q e h
 keepP:=fun k h h' p f=>p.at fun o e=>f o e
 keepL:=fun xs h h' p f=>p.at fun o e=>f o e
 obj:=fun k h ⟨o,e,_,d⟩=>⟨o,_,e,d⟩
section
variable {prog:Program}{w:World}{A:Around}{E:Value->Shared->Prop}{s:Shared}
theorem Z8{it t:Addr}{i:Nat}{items:Array Value}{x:Value}{Q:Value->Shared->Prop}(hit:s.heap.IsTupleIter it t i)
  (ht:s.heap.IsTuple t items) (hx:items[i]?=some x) (hQ:∀h',h'.IsTupleIter it t (i+1)->Heap.SameBut it s.heap h'->Q x { s with heap:=h' }):
  wpAny (model prog w) A (Builtin.SmallTypes.nextOf (.ref it)) Q E s:=by
 obtain⟨o,ho,hc,hd⟩:=id hit
 obtain⟨ol,hol,_,nl,hdl⟩:=ht
 unfold Builtin.SmallTypes.nextOf
 refine wpAny_bind (wpAny_callSpecial?_slot (name:=Str.ofString "__next__") hit.typeIs F.slot_tuple_iterator_next
  (wpAny_call_entry F.slot_tuple_iterator_next hit.typeIs F.entry_tuple_iterator_next ?_ (F.args_tuple_iterator_next_1 _)))
 show wpAny _ _ (field (.ref it) 0 >>= _) _ _ s
 refine wpAny_bind (wpAny_field ho hd (x:=.ref t) rfl ?_)
 show wpAny _ _ (if(Value.ref t==Value.none)=true then _ else _) _ _ s
 rw [if_neg (show ¬((Value.ref t==Value.none)=true)from Bool.false_ne_true)]
 show wpAny _ _ (field (.ref it) 1 >>= _) _ _ s
 refine wpAny_bind (wpAny_field ho hd (x:=.int i 0) rfl ?_)
 show wpAny _ _ (seqItems? (.ref t) >>= _) _ _ s
 refine wpAny_bind (wpAny_seqItems hol hdl ?_)
 simp only [Int.toNat_natCast,hx]
 refine wpAny_bind (wpAny_setField ho hd (by simp) (wpAny_pure ⟨x,rfl,wpAny_pure (hQ _ ?_ (Heap.SameBut.update ..))⟩))
 exact⟨_,Heap.get?_update_self _ ho (Obj.isFreed_of_fields (Obj.data_mapFields hd _)),(Obj.cls_mapFields ..).trans hc,by
  rw [Obj.data_mapFields hd];simp [rawInt]⟩
theorem Yh{it t:Addr}{i:Nat}{items:Array Value}{Q:Value->Shared->Prop}(hh:A.handled=none)
  (hit:s.heap.IsTupleIter it t i) (ht:s.heap.IsTuple t items) (hx:items[i]?=none)
  (hE : ∀ h' e, Heap.ExtBut it s.heap h' -> (∃ o, h'.get? e = some o /\ o.cls = .type "StopIteration") -> E (.ref e) { s with heap := h' }) :
  wpAny (model prog w) A (Builtin.SmallTypes.nextOf (.ref it)) Q E s:=by
 obtain⟨o,ho,hc,hd⟩:=id hit
 obtain⟨ol,hol,_,nl,hdl⟩:=ht
 unfold Builtin.SmallTypes.nextOf
 refine wpAny_bind (wpAny_callSpecial?_slot (name:=Str.ofString "__next__") hit.typeIs F.slot_tuple_iterator_next
  (wpAny_call_entry F.slot_tuple_iterator_next hit.typeIs F.entry_tuple_iterator_next ?_ (F.args_tuple_iterator_next_1 _)))
 show wpAny _ _ (field (.ref it) 0 >>= _) _ _ s
 refine wpAny_bind (wpAny_field ho hd (x:=.ref t) rfl ?_)
 show wpAny _ _ (if(Value.ref t==Value.none)=true then _ else _) _ _ s
 rw [if_neg (show ¬((Value.ref t==Value.none)=true)from Bool.false_ne_true)]
 show wpAny _ _ (field (.ref it) 1 >>= _) _ _ s
 refine wpAny_bind (wpAny_field ho hd (x:=.int i 0) rfl ?_)
 show wpAny _ _ (seqItems? (.ref t) >>= _) _ _ s
 refine wpAny_bind (wpAny_seqItems hol hdl ?_)
 simp only [Int.toNat_natCast,hx]
 refine wpAny_bind (wpAny_rule (wpAny_bind (wpAny_setField ho hd (by simp) ?_)))
 show wpAny _ _ (newExc (.type "StopIteration") [] >>= _) _ _ _
 refine wpAny_bind ?_
 simp only [newExc,newTuple]
 refine wpAny_bind (wpAny_newObj_type ?_ (by size_fits))
 refine wpAny_bind (m:=firstArgMember _ _) (wpAny_of_eq (a:=Value.none) (by first | rfl | (simp only [firstArgMember];rfl)) ?_)
 refine wpAny_newObj_type ?_ (by size_fits)
 simp only [raiseNew]
 refine wpAny_bind (wpAny_handled ?_)
 first | rw [show A.in1.handled=none from hh] | rw [hh]
 refine wpAny_bind (wpAny_pure (wpAny_throw ?_))
 exact hE _ _ (((Heap.SameBut.update ..).extBut.push _).push _) ⟨_,Heap.get?_push_size _ rfl,rfl⟩
end
theorem Qeo(prog:Program)(w:World)(it l:Addr):Nx prog w it l (fun k h=>h.IsTupleIter it l k) (fun xs h=>h.IsTuple l xs) where
 item:=fun A E s k xs x Q p q e h=>Z8 p q e h
 done:=fun A E s k xs Q hh p q e h=>Yh hh p q e h
 keepP:=fun k h h' p f=>p.at fun o e=>f o e
 keepL:=fun xs h h' p f=>p.at fun o e=>f o e
 obj:=fun k h ⟨o,e,_,d⟩=>⟨o,_,e,d⟩
section
variable {prog:Program}{w:World}{A:Around}{E:Value->Shared->Prop}{s:Shared}{z TI TO i1 i2 l1 l2:Addr}{P1 P2:Nat->Heap->Prop}{L1 L2:Array Value->Heap->Prop}
theorem QbM{k1 k2:Nat}{xs ys:Array Value}{x y a b:Value}{Q:Value->Shared->Prop}(N1:Nx prog w i1 l1 P1 L1)(N2:Nx prog w i2 l2 P2 L2)(D:ZipApart z TI TO i1 i2 l1 l2)
  (hz:IsZip s.heap z TI TO .none) (hTI:IsPair s.heap TI (.ref i1) (.ref i2)) (hTO:IsPair s.heap TO a b)
  (h1:P1 k1 s.heap) (h2:P2 k2 s.heap) (hl1:L1 xs s.heap) (hl2:L2 ys s.heap) (hx:xs[k1]?=some x) (hy:ys[k2]?=some y)
  (hQ:∀h',IsZip h' z TI TO (rawInt s.heap.objs.size)->IsPair h' TO x y->P1 (k1+1) h'->P2 (k2+1) h'->IsPair h' s.heap.objs.size x y->h'.objs.size=s.heap.objs.size+1 ->
   (∀c o,c≠z->c≠TO->c≠i1->c≠i2->s.heap.get? c=some o->h'.get? c=some o)->Q (.ref s.heap.objs.size) { s with heap:=h' }):
  wpAny (model prog w) A (Builtin.«zip.__next__» ⟨[.ref z],[]⟩) (fun fin s'=>∃v,fin=.done (.ret v)/\Q v s') E s:=by
 have kP1:∀{k:Nat} {h h':Heap} {c:Addr},P1 k h->Heap.SameBut c h h'->i1≠c->P1 k h':=fun {k h h' c} p sb ne=>N1.keepP k h h' p fun o e=>(sb.2 i1 ne).trans e
 have kP2:∀{k:Nat} {h h':Heap} {c:Addr},P2 k h->Heap.SameBut c h h'->i2≠c->P2 k h':=fun {k h h' c} p sb ne=>N2.keepP k h h' p fun o e=>(sb.2 i2 ne).trans e
 have kL1:∀{h h':Heap} {c:Addr},L1 xs h->Heap.SameBut c h h'->l1≠c->L1 xs h':=fun {h h' c} p sb ne=>N1.keepL xs h h' p fun o e=>(sb.2 l1 ne).trans e
 have kL2:∀{h h':Heap} {c:Addr},L2 ys h->Heap.SameBut c h h'->l2≠c->L2 ys h':=fun {h h' c} p sb ne=>N2.keepL ys h h' p fun o e=>(sb.2 l2 ne).trans e
 show wpAny _ _ (field (.ref z) 2 >>= _) _ _ _
 refine wpAny_bind (wpAny_field hz rfl (x:=.bool false) rfl ?_)
 show wpAny _ _ (field (.ref z) 3 >>= _) _ _ _
 refine wpAny_bind (wpAny_field hz rfl (x:=.ref TI) rfl ?_)
 refine wpAny_bind (wpAny_seqItems hTI rfl ?_)
 show wpAny _ _ (Builtin.SmallTypes.ownedTupleIsFree (.ref z) >>= _) _ _ _
 refine wpAny_bind ?_
 unfold Builtin.SmallTypes.ownedTupleIsFree
 refine wpAny_bind (wpAny_field hz rfl (x:=.none) rfl (wpAny_pure ?_))
 simp only [if_true]
 refine wpAny_bind (wpAny_rule ?_)
 refine wpAny_bind (wpAny_field hz rfl (x:=.ref TO) rfl ?_)
 refine wpAny_bind (wpAny_setField_rec hz (by simp) fun h₁ hz₁ hs₁=>?_)
 replace hz₁:IsZip h₁ z TI TO .ellipsis:=hz₁
 refine wpAny_bind ?_
 simp only [List.zipIdx_cons,List.zipIdx_nil,List.forIn_cons,List.forIn_nil]
 refine wpAny_bind (wpAny_bind (wpAny_onRaise ?_))
 show wpAny _ _ (Builtin.SmallTypes.nextOf (.ref i1) >>= _) _ _ _
 refine wpAny_bind (N1.item _ _ _ _ _ _ _ (kP1 h1 hs₁ D.i1z) (kL1 hl1 hs₁ D.l1z) hx fun h₂ h1₂ hs₂=>wpAny_pure ?_)
 have hTO₂:IsPair h₂ TO a b:=hs₂.extBut _ _ D.TOi1 (hs₁.extBut _ _ D.TOz hTO)
 refine wpAny_bind (wpAny_seqItems hTO₂ rfl ?_)
 refine wpAny_bind (wpAny_updateSeq_pair hTO₂ fun h₃ hTO₃ hs₃=>?_)
 replace hTO₃:IsPair h₃ TO x b:=hTO₃
 refine wpAny_bind (wpAny_letGo (wpAny_pure ?_))
 refine wpAny_bind (wpAny_bind (wpAny_onRaise ?_))
 show wpAny _ _ (Builtin.SmallTypes.nextOf (.ref i2) >>= _) _ _ _
 refine wpAny_bind (N2.item _ _ _ _ _ _ _ (kP2 (kP2 (kP2 h2 hs₁ D.i2z) hs₂ D.i12.symm) hs₃ D.TOi2.symm) (kL2 (kL2 (kL2 hl2 hs₁ D.l2z) hs₂ D.l2i1) hs₃ D.l2TO) hy fun h₄ h2₄ hs₄=>wpAny_pure ?_)
 have hTO₄:IsPair h₄ TO x b:=hs₄.extBut _ _ D.TOi2 hTO₃
 refine wpAny_bind (wpAny_seqItems hTO₄ rfl ?_)
 refine wpAny_bind (wpAny_updateSeq_pair hTO₄ fun h₅ hTO₅ hs₅=>?_)
 replace hTO₅:IsPair h₅ TO x y:=hTO₅
 refine wpAny_bind (wpAny_letGo (wpAny_pure (wpAny_pure ?_)))
 refine wpAny_bind (wpAny_seqItems hTO₅ rfl ?_)
 refine wpAny_bind (wpAny_newTuple ?_)
 have hsz:h₅.objs.size=s.heap.objs.size:=by rw [hs₅.1,hs₄.1,hs₃.1,hs₂.1,hs₁.1]
 have hz₅:IsZip h₅ z TI TO .ellipsis:=hs₅.extBut _ _ D.TOz.symm (hs₄.extBut _ _ D.i2z.symm (hs₃.extBut _ _ D.TOz.symm (hs₂.extBut _ _ D.i1z.symm hz₁)))
 have hk₅:∀c o,c≠z->c≠TO->c≠i1->c≠i2->s.heap.get? c=some o->h₅.get? c=some o:=fun c o c1 c2 c3 c4 e =>
  hs₅.extBut _ _ c2 (hs₄.extBut _ _ c4 (hs₃.extBut _ _ c2 (hs₂.extBut _ _ c3 (hs₁.extBut _ _ c1 e))))
 have h1₅:P1 (k1+1) h₅:=kP1 (kP1 (kP1 h1₂ hs₃ D.TOi1.symm) hs₄ D.i12) hs₅ D.TOi1.symm
 have h2₅:P2 (k2+1) h₅:=kP2 h2₄ hs₅ D.TOi2.symm
 have hzlt:z<h₅.objs.size:=Heap.lt_size hz₅
 show wpAny _ _ (Builtin.SmallTypes.ownedTupleHandOut (.ref z) (.ref h₅.objs.size) >>= _) _ _ _
 refine wpAny_bind ?_
 unfold Builtin.SmallTypes.ownedTupleHandOut
 have hz₆:IsZip (h₅.push { cls:=.type "tuple",data:=.seq #[x,y] }) z TI TO .ellipsis:=Heap.get?_push_of_some _ hz₅
 refine wpAny_bind (wpAny_setField_rec hz₆ (by simp) fun h₇ hz₇ hs₇=>?_)
 replace hz₇:IsZip h₇ z TI TO (rawInt h₅.objs.size):=hz₇
 refine wpAny_setField_rec hz₇ (by simp) fun h₈ hz₈ hs₈=>?_
 replace hz₈:IsZip h₈ z TI TO (rawInt h₅.objs.size):=hz₈
 have up:∀c o,c≠z->h₅.get? c=some o->h₈.get? c=some o:=fun c o c1 e=>hs₈.extBut _ _ c1 (hs₇.extBut _ _ c1 (Heap.get?_push_of_some _ e))
 have hT₈:IsPair h₈ h₅.objs.size x y:=hs₈.extBut _ _ (Nat.ne_of_gt hzlt) (hs₇.extBut _ _ (Nat.ne_of_gt hzlt) (Heap.get?_push_size _ rfl))
 have hz8:h₈.objs.size=h₅.objs.size+1:=by rw [hs₈.1,hs₇.1,Heap.size_push]
 rw [hsz]at hz₈ hT₈ hz8
 refine wpAny_pure ⟨_,rfl,?_⟩
 show Q (.ref h₅.objs.size) _
 rw [hsz]
 exact hQ h₈ hz₈ (up _ _ D.TOz hTO₅) (N1.keepP _ _ _ h1₅ fun o e=>up _ o D.i1z e) (N2.keepP _ _ _ h2₅ fun o e=>up _ o D.i2z e) hT₈ hz8 fun c o c1 c2 c3 c4 e=>up c o c1 (hk₅ c o c1 c2 c3 c4 e)
theorem QdJ{k1 k2:Nat}{xs ys:Array Value}{a b:Value}{Q:Fin->Shared->Prop}(N1:Nx prog w i1 l1 P1 L1)(N2:Nx prog w i2 l2 P2 L2)(hh:A.handled=none)(D:ZipApart z TI TO i1 i2 l1 l2)
  (hz:IsZip s.heap z TI TO .none) (hTI:IsPair s.heap TI (.ref i1) (.ref i2)) (hTO:IsPair s.heap TO a b)
  (h1:P1 k1 s.heap) (h2:P2 k2 s.heap) (hl1:L1 xs s.heap) (hl2:L2 ys s.heap) (hend:xs[k1]?=none\/ys[k2]?=none)
  (hE : ∀ h' e, (∀ c o, c ≠ z -> c ≠ TO -> c ≠ i1 -> c ≠ i2 -> s.heap.get? c = some o -> h'.get? c = some o) -> (∃ o, h'.get? e = some o /\ o.cls = .type "StopIteration") -> E (.ref e) { s with heap := h' }) :
  wpAny (model prog w) A (Builtin.«zip.__next__» ⟨[.ref z],[]⟩) Q E s:=by
 have kP1:∀{k:Nat} {h h':Heap} {c:Addr},P1 k h->Heap.SameBut c h h'->i1≠c->P1 k h':=fun {k h h' c} p sb ne=>N1.keepP k h h' p fun o e=>(sb.2 i1 ne).trans e
 have kP2:∀{k:Nat} {h h':Heap} {c:Addr},P2 k h->Heap.SameBut c h h'->i2≠c->P2 k h':=fun {k h h' c} p sb ne=>N2.keepP k h h' p fun o e=>(sb.2 i2 ne).trans e
 have kL1:∀{h h':Heap} {c:Addr},L1 xs h->Heap.SameBut c h h'->l1≠c->L1 xs h':=fun {h h' c} p sb ne=>N1.keepL xs h h' p fun o e=>(sb.2 l1 ne).trans e
 have kL2:∀{h h':Heap} {c:Addr},L2 ys h->Heap.SameBut c h h'->l2≠c->L2 ys h':=fun {h h' c} p sb ne=>N2.keepL ys h h' p fun o e=>(sb.2 l2 ne).trans e
 show wpAny _ _ (field (.ref z) 2 >>= _) _ _ _
 refine wpAny_bind (wpAny_field hz rfl (x:=.bool false) rfl ?_)
 show wpAny _ _ (field (.ref z) 3 >>= _) _ _ _
 refine wpAny_bind (wpAny_field hz rfl (x:=.ref TI) rfl ?_)
 refine wpAny_bind (wpAny_seqItems hTI rfl ?_)
 show wpAny _ _ (Builtin.SmallTypes.ownedTupleIsFree (.ref z) >>= _) _ _ _
 refine wpAny_bind ?_
 unfold Builtin.SmallTypes.ownedTupleIsFree
 refine wpAny_bind (wpAny_field hz rfl (x:=.none) rfl (wpAny_pure ?_))
 simp only [if_true]
 refine wpAny_bind (wpAny_rule ?_)
 refine wpAny_bind (wpAny_field hz rfl (x:=.ref TO) rfl ?_)
 refine wpAny_bind (wpAny_setField_rec hz (by simp) fun h₁ hz₁ hs₁=>?_)
 replace hz₁:IsZip h₁ z TI TO .ellipsis:=hz₁
 refine wpAny_bind ?_
 simp only [List.zipIdx_cons,List.zipIdx_nil,List.forIn_cons,List.forIn_nil]
 refine wpAny_bind (wpAny_bind (wpAny_onRaise ?_))
 show wpAny _ _ (Builtin.SmallTypes.nextOf (.ref i1) >>= _) _ _ _
 cases hx:xs[k1]? with
 | none =>
  refine wpAny_bind (N1.done _ _ _ _ _ _ hh (kP1 h1 hs₁ D.i1z) (kL1 hl1 hs₁ D.l1z) hx fun h₂ e hs₂ he=>?_)
  obtain⟨oe,hoe,hce⟩:=he
  have hz₂:IsZip h₂ z TI TO .ellipsis:=hs₂ _ _ D.i1z.symm hz₁
  have hez:e≠z:=fun x=>by subst x;rw [hz₂]at hoe;cases hoe;simp at hce
  refine wpAny_setField_rec hz₂ (by simp) fun h₃ _ hs₃=>hE h₃ e (fun c o c1 _ c3 _ x=>hs₃.extBut _ _ c1 (hs₂ _ _ c3 (hs₁.extBut _ _ c1 x))) ⟨oe,hs₃.extBut _ _ hez hoe,hce⟩
 | some x =>
  have hy:ys[k2]?=none:=by rcases hend with h | h;rw [hx]at h;cases h;exact h
  refine wpAny_bind (N1.item _ _ _ _ _ _ _ (kP1 h1 hs₁ D.i1z) (kL1 hl1 hs₁ D.l1z) hx fun h₂ h1₂ hs₂=>wpAny_pure ?_)
  have hTO₂:IsPair h₂ TO a b:=hs₂.extBut _ _ D.TOi1 (hs₁.extBut _ _ D.TOz hTO)
  refine wpAny_bind (wpAny_seqItems hTO₂ rfl ?_)
  refine wpAny_bind (wpAny_updateSeq_pair hTO₂ fun h₃ hTO₃ hs₃=>?_)
  refine wpAny_bind (wpAny_letGo (wpAny_pure ?_))
  refine wpAny_bind (wpAny_bind (wpAny_onRaise ?_))
  show wpAny _ _ (Builtin.SmallTypes.nextOf (.ref i2) >>= _) _ _ _
  refine wpAny_bind (N2.done _ _ _ _ _ _ hh (kP2 (kP2 (kP2 h2 hs₁ D.i2z) hs₂ D.i12.symm) hs₃ D.TOi2.symm) (kL2 (kL2 (kL2 hl2 hs₁ D.l2z) hs₂ D.l2i1) hs₃ D.l2TO) hy fun h₄ e hs₄ he=>?_)
  obtain⟨oe,hoe,hce⟩:=he
  have hz₄:IsZip h₄ z TI TO .ellipsis:=hs₄ _ _ D.i2z.symm (hs₃.extBut _ _ D.TOz.symm (hs₂.extBut _ _ D.i1z.symm hz₁))
  have hez:e≠z:=fun x=>by subst x;rw [hz₄]at hoe;cases hoe;simp at hce
  refine wpAny_setField_rec hz₄ (by simp) fun h₅ _ hs₅=>hE h₅ e (fun c o c1 c2 c3 c4 x=>hs₅.extBut _ _ c1 (hs₄ _ _ c4 (hs₃.extBut _ _ c2 (hs₂.extBut _ _ c3 (hs₁.extBut _ _ c1 x))))) ⟨oe,hs₅.extBut _ _ hez hoe,hce⟩
theorem Yg{k1 k2:Nat}{xs ys:Array Value}{x y a b:Value}{Q:Option Value->Shared->Prop}(N1:Nx prog w i1 l1 P1 L1)(N2:Nx prog w i2 l2 P2 L2)(D:ZipApart z TI TO i1 i2 l1 l2)
  (hz:IsZip s.heap z TI TO .none) (hTI:IsPair s.heap TI (.ref i1) (.ref i2)) (hTO:IsPair s.heap TO a b)
  (h1:P1 k1 s.heap) (h2:P2 k2 s.heap) (hl1:L1 xs s.heap) (hl2:L2 ys s.heap) (hx:xs[k1]?=some x) (hy:ys[k2]?=some y)
  (hQ:∀h',IsZip h' z TI TO (rawInt s.heap.objs.size)->IsPair h' TO x y->P1 (k1+1) h'->P2 (k2+1) h'->IsPair h' s.heap.objs.size x y->h'.objs.size=s.heap.objs.size+1 ->
   (∀c o,c≠z->c≠TO->c≠i1->c≠i2->s.heap.get? c=some o->h'.get? c=some o)->Q (some (.ref s.heap.objs.size)) { s with heap:=h' }):
  wpAny (model prog w) A (pyNext (.ref z)) Q E s:=by
 have hT:s.TypeIs (.ref z) "zip":=⟨_,hz,rfl⟩
 unfold pyNext
 exact wpAny_bind (wpAny_attempt (wpAny_callSpecial?_slot (name:=Str.ofString "__next__") hT F.slot_zip_next
  (wpAny_call_entry F.slot_zip_next hT F.entry_zip_next
   (QbM N1 N2 D hz hTI hTO h1 h2 hl1 hl2 hx hy fun h' a1 a2 a3 a4 a5 a6 a7=>wpAny_pure (hQ h' a1 a2 a3 a4 a5 a6 a7)) (F.args_zip_next_1 _))))
theorem Ys{k1 k2:Nat}{xs ys:Array Value}{a b:Value}{Q:Option Value->Shared->Prop}(N1:Nx prog w i1 l1 P1 L1)(N2:Nx prog w i2 l2 P2 L2)(hh:A.handled=none)(D:ZipApart z TI TO i1 i2 l1 l2)
  (hz:IsZip s.heap z TI TO .none) (hTI:IsPair s.heap TI (.ref i1) (.ref i2)) (hTO:IsPair s.heap TO a b)
  (h1:P1 k1 s.heap) (h2:P2 k2 s.heap) (hl1:L1 xs s.heap) (hl2:L2 ys s.heap) (hend:xs[k1]?=none\/ys[k2]?=none)
  (hQ:∀h',(∀c o,c≠z->c≠TO->c≠i1->c≠i2->s.heap.get? c=some o->h'.get? c=some o)->Q none { s with heap:=h' }):wpAny (model prog w) A (pyNext (.ref z)) Q E s:=by
 have hT:s.TypeIs (.ref z) "zip":=⟨_,hz,rfl⟩
 unfold pyNext
 refine wpAny_bind (wpAny_attempt (wpAny_callSpecial?_slot (name:=Str.ofString "__next__") hT F.slot_zip_next
  (wpAny_call_entry F.slot_zip_next hT F.entry_zip_next (QdJ N1 N2 hh D hz hTI hTO h1 h2 hl1 hl2 hend fun h' e hk he=>?_) (F.args_zip_next_1 _))))
 obtain⟨o,ho,hc⟩:=he
 refine wpAny_bind (wpAny_isInstance (T:="StopIteration") (b:=true) ⟨o,ho,hc⟩ isSubtype_stop ?_)
 exact wpAny_pure (hQ _ hk)
end
end L2
namespace L2
open PySem PySem.Spec PyProof.Rows
section
variable {X:Cx}{pins:List (Addr×Obj)}{σ:St}{H:Hp}{s:Shared}{h':Heap}
theorem Inv.turnedLay{t':Nat}{ch:List Addr}{p:Addr}{vs:List V}{its:List Value}(I:Inv X pins σ H s)(hf:∀b∈ch,QaH X pins H b)(k:∀b o,b∉ch->s.heap.get? b=some o->h'.get? b=some o)
  (there:∀b o,b∈ch->s.heap.get? b=some o->∃o',h'.get? b=some o')
  (hp:s.heap.objs.size<=p) (hv:Vals vs its) (ht:IsTup h' p its.toArray) (hz:vs.length<=sizeLine):Inv X pins σ (upd H p (.tup vs)) { s with heap:=h',toks:=t' }:=by
 have hn:H p=none:=I.hok.fresh hp
 have ne:∀b o,s.heap.get? b=some o->b≠p:=fun b o e z=>by
  have:=Heap.lt_size e
  rw [z]at this
  exact absurd (Nat.lt_of_lt_of_le this hp) (Nat.lt_irrefl _)
 have nch:∀b u,H b=some u->b∉ch:=fun b u e z=>by rw [(hf b z).1]at e;cases e
 have up:∀b u,H b=some u->upd H p (.tup vs) b=some u:=fun b u e=>by rw [Qb (Zo e hn)];exact e
 refine I.step (g':=s.gens) (d':=s.drawn) (ch:=ch) (fun b hb=>?_) (fun b o _ _ hc e _=>k b o hc e) (fun b o _ _ hc e _=>⟨o.slots,k b o hc e⟩) (fun b o _ e n=>by rw [Qb (ne b o e)];exact n)
  (fun b o hc e=>⟨o,k b o hc e⟩) (fun b xs e=>up b _ e) (fun b o u e=>up b _ e) (fun b ps e=>⟨#[],by rw [up b _ e];simp⟩) (fun m hm=>?_) (fun b u e=>?_) I.bare
 ·obtain⟨_,f1,_,f3,f4,f5⟩:=hf b hb
  exact⟨f3,f1,f4,f5⟩
 ·obtain⟨o,es,ep,ho,r⟩:=hm
  refine⟨o,es,ep,k _ o (fun z=>(hf _ z).2.1 rfl) ho,r⟩
 ·by_cases hb:b=p
  ·subst hb
   rw [Qe]at e
   cases e
   exact⟨hz,its,hv,ht⟩
  ·rw [Qb hb]at e
   refine(I.hok b u e).stay (fun c v hc q=>k c v ?_ q) (fun c q=>up c _ q) fun c xs q=>up c _ q
   rcases hc with z | z
   ·rw [z];exact nch b u e
   ·exact nch c _ z
theorem Inv.turnedL{t':Nat}{ch:List Addr}(I:Inv X pins σ H s)(hf:∀b∈ch,QaH X pins H b)(k:∀b o,b∉ch->s.heap.get? b=some o->h'.get? b=some o):Inv X pins σ H { s with heap:=h',toks:=t' }:=by
 have nch:∀b u,H b=some u->b∉ch:=fun b u e z=>by rw [(hf b z).1]at e;cases e
 refine I.step (g':=s.gens) (d':=s.drawn) (ch:=ch) (fun b hb=>?_) (fun b o _ _ hc e _=>k b o hc e) (fun b o _ _ hc e _=>⟨o.slots,k b o hc e⟩) (fun b o _ e n=>n)
  (fun b o hc e=>⟨o,k b o hc e⟩) (fun b xs e=>e) (fun b o u e=>e) (fun b ps e=>⟨#[],by rw [e];simp⟩) (fun m hm=>?_) (fun b u e=>?_) I.bare
 ·obtain⟨_,f1,_,f3,f4,f5⟩:=hf b hb
  exact⟨f3,f1,f4,f5⟩
 ·obtain⟨o,es,ep,ho,r⟩:=hm
  exact⟨o,es,ep,k _ o (fun z=>(hf _ z).2.1 rfl) ho,r⟩
 ·refine(I.hok b u e).stay (fun c v hc q=>k c v ?_ q) (fun c q=>q) fun c xs q=>q
  rcases hc with z | z
  ·rw [z];exact nch b u e
  ·exact nch c _ z
end
noncomputable def SqB:Bool->PySem.W.Frag->Hp->Addr->List V->Prop
 | true=>SqL
 | false=>SqT
noncomputable def LB:Bool->Addr->Array Value->Heap->Prop
 | true,l=>fun xs h=>h.IsList l xs
 | false,l=>fun xs h=>h.IsTuple l xs
noncomputable def PB:Bool->Addr->Addr->Nat->Heap->Prop
 | true,it,l=>fun k h=>h.IsListIter it l k
 | false,it,l=>fun k h=>h.IsTupleIter it l k
theorem nxB(b:Bool)(prog:Program)(w:World)(it l:Addr):Nx prog w it l (PB b it l) (LB b l):=by
 cases b with
 | true=>exact Qgq prog w it l
 | false=>exact Qeo prog w it l
theorem Inv.sqB{X:Cx}{pins:List (Addr×Obj)}{σ:St}{H:Hp}{s:Shared}{b:Bool}{a:Addr}{xs:List V}(I:Inv X pins σ H s)(h:SqB b X.K H a xs):∃its:List Value,Vals xs its/\LB b a its.toArray s.heap/\xs.length<=sizeLine:=by
 cases b with
 | true=>obtain⟨its,r,p,z⟩:=I.list h;exact⟨its,r,p.isList,z⟩
 | false=>obtain⟨its,r,p,z⟩:=I.tuple h;exact⟨its,r,p,z⟩
theorem Inv.sqB_inj{X:Cx}{pins:List (Addr×Obj)}{σ:St}{H:Hp}{s:Shared}{b:Bool}{a:Addr}{xs ys:List V}(I:Inv X pins σ H s)(h:SqB b X.K H a xs)(h':SqB b X.K H a ys):xs=ys:=by
 cases b with
 | true=>exact I.list_inj h h'
 | false=>exact I.tuple_inj h h'
noncomputable def Itz(b c:Bool)(K:PySem.W.Frag)(a1 a2:Addr):It :=
 ⟨fun i H=>∃xs ys x y,SqB b K H a1 xs/\SqB c K H a2 ys/\xs[i]?=some x/\ys[i]?=some y,
   fun i H x H'=>∃p v w,H p=none/\x=.ref p/\H'=upd H p (.tup [v,w])/\(∀xs,SqB b K H a1 xs->xs[i]?=some v)/\∀ys,SqB c K H a2 ys->ys[i]?=some w,
   fun i H=>∃xs ys,SqB b K H a1 xs/\SqB c K H a2 ys/\(xs.length<=i\/ys.length<=i)⟩
theorem QdN{P:Program}{w:World}{K:PySem.W.Frag}{elts:List Expr}{kt:Nat}{pt:Pos}(b b':Bool)(a1 a2 z TI TO i1 i2:Addr)(D:ZipApart z TI TO i1 i2 a1 a2):
  Turn P w K (.Tuple elts kt pt) (Itz b b' K a1 a2) [z,TI,TO,i1,i2] z (fun i h=>IsZip h z TI TO .none/\IsPair h TI (.ref i1) (.ref i2)/\(∃a c,IsPair h TO a c)/\PB b i1 a1 i h/\PB b' i2 a2 i h) where
 mem:=by simp
 obj:=fun i h st c hc=>by
  obtain⟨hz,hTI,⟨a,c',hTO⟩,p1,p2⟩:=st
  have hc':c=z\/c=TI\/c=TO\/c=i1\/c=i2:=by simpa using hc
  rcases hc' with rfl | rfl | rfl | rfl | rfl
  ·exact⟨_,hz,fun v q=>nomatch q⟩
  ·exact⟨_,hTI,fun v q=>nomatch q⟩
  ·exact⟨_,hTO,fun v q=>nomatch q⟩
  ·obtain⟨o,vs,e,d⟩:=(nxB b P w c a1).obj i h p1
   exact⟨o,e,fun v q=>by rw [d]at q;cases q⟩
  ·obtain⟨o,vs,e,d⟩:=(nxB b' P w c a2).obj i h p2
   exact⟨o,e,fun v q=>by rw [d]at q;cases q⟩
 keep:=fun i h h' st k=>by
  obtain⟨hz,hTI,⟨a,c',hTO⟩,p1,p2⟩:=st
  exact⟨k z (by simp) _ hz,k TI (by simp) _ hTI,⟨a,c',k TO (by simp) _ hTO⟩,(nxB b P w i1 a1).keepP i h h' p1 fun o e=>k i1 (by simp) o e,(nxB b' P w i2 a2).keepP i h h' p2 fun o e=>k i2 (by simp) o e⟩
 item:=by
  intro X hP hw hK hc i pins s σ H E I hf st hg
  subst hP hw hK
  obtain⟨hz,hTI,⟨a,c',hTO⟩,p1,p2⟩:=st
  obtain⟨xs,ys,x,y,q1,q2,ex,ey⟩:=hg
  obtain⟨it1,r1,l1,_⟩:=I.sqB q1
  obtain⟨it2,r2,l2,_⟩:=I.sqB q2
  obtain⟨u,hu,ru⟩:=r1.get ex
  obtain⟨v,hv,rv⟩:=r2.get ey
  have ltz:∀c,c∈[z,TI,TO,i1,i2]->c<s.heap.objs.size:=fun c hc=>by
   have hc':c=z\/c=TI\/c=TO\/c=i1\/c=i2:=by simpa using hc
   rcases hc' with rfl | rfl | rfl | rfl | rfl
   ·exact Heap.lt_size hz
   ·exact Heap.lt_size hTI
   ·exact Heap.lt_size hTO
   ·obtain⟨o,vs,e,d⟩:=(nxB b X.prog X.w c a1).obj i _ p1;exact Heap.lt_size e
   ·obtain⟨o,vs,e,d⟩:=(nxB b' X.prog X.w c a2).obj i _ p2;exact Heap.lt_size e
  refine Yg (nxB b X.prog X.w i1 a1) (nxB b' X.prog X.w i2 a2) D hz hTI hTO p1 p2 l1 l2 (x:=u) (y:=v) (by simpa using hu) (by simpa using hv) fun h' b1 b2 b3 b4 b5 b6 b7=>?_
  refine⟨_,rfl,?_⟩
  refine wpAny_letOwnedTupleGo_zip (s:={ s with heap:=h' }) b1 fun h2 c1 c2=>?_
  have nep:∀c,c∈[z,TI,TO,i1,i2]->c≠s.heap.objs.size:=fun c hc=>Nat.ne_of_lt (ltz c hc)
  have up:∀c o,c≠z->h'.get? c=some o->h2.get? c=some o:=fun c o hc e=>c2.extBut _ _ hc e
  have kp:∀c o,c∉[z,TO,i1,i2]->s.heap.get? c=some o->h2.get? c=some o:=fun c o hc e=>by
   have hc':¬(c=z\/c=TO\/c=i1\/c=i2):=by simpa using hc
   exact up c o (fun q=>hc' (.inl q)) (b7 c o (fun q=>hc' (.inl q)) (fun q=>hc' (.inr (.inl q))) (fun q=>hc' (.inr (.inr (.inl q)))) (fun q=>hc' (.inr (.inr (.inr q)))) e)
  have hf':∀c∈[z,TO,i1,i2],QaH X pins H c:=fun c hc=>hf c (by
   have hc':c=z\/c=TO\/c=i1\/c=i2:=by simpa using hc
   rcases hc' with rfl | rfl | rfl | rfl<;>simp)
  have hT:IsPair h2 s.heap.objs.size u v:=up _ _ (Ne.symm (nep z (by simp))) b5
  have I2:Inv X pins σ (upd H s.heap.objs.size (.tup [x,y])) { s with heap:=h2 }:=I.turnedLay (t':=s.toks) (its:=[u,v]) hf' kp (fun c o _ e=>by
   by_cases hc:c∈[z,TO,i1,i2]
   ·have hc':c=z\/c=TO\/c=i1\/c=i2:=by simpa using hc
    rcases hc' with rfl | rfl | rfl | rfl
    ·exact⟨_,c1⟩
    ·exact⟨_,up _ _ D.TOz b2⟩
    ·obtain⟨o,vs,e,d⟩:=(nxB b X.prog X.w c a1).obj _ _ b3;exact⟨o,up _ _ D.i1z e⟩
    ·obtain⟨o,vs,e,d⟩:=(nxB b' X.prog X.w c a2).obj _ _ b4;exact⟨o,up _ _ D.i2z e⟩
   ·exact⟨o,kp c o hc e⟩) (Nat.le_refl _) (.cons ru (.cons rv .nil)) ⟨_,hT,rfl,_,rfl⟩ (by show 2<=sizeLine;decide)
  have hn:H s.heap.objs.size=none:=I.hok.fresh (Nat.le_refl _)
  refine⟨.ref s.heap.objs.size,_,I2,rfl,⟨_,x,y,hn,rfl,rfl,fun ws hw=>by rw [I.sqB_inj hw q1];exact ex,fun ws hw=>by rw [I.sqB_inj hw q2];exact ey⟩,⟨c1,?_,⟨_,_,up _ _ D.TOz b2⟩,?_,?_⟩,fun c hc=>?_⟩
  ·exact kp _ _ (by
    have d1:=D.TIz;have d2:=D.TITO;have d3:=D.TIi1;have d4:=D.TIi2
    simp [d1,d2,d3,d4]) hTI
  ·exact(nxB b X.prog X.w i1 a1).keepP _ _ _ b3 fun o e=>up _ _ D.i1z e
  ·exact(nxB b' X.prog X.w i2 a2).keepP _ _ _ b4 fun o e=>up _ _ D.i2z e
  ·rw [Qb (nep c hc)]
   exact(hf c hc).1
 done:=by
  intro X hP hw hK hc i pins s σ H E I hf st hg
  subst hP hw hK
  obtain⟨hz,hTI,⟨a,c',hTO⟩,p1,p2⟩:=st
  obtain⟨xs,ys,q1,q2,hl⟩:=hg
  obtain⟨it1,r1,l1,_⟩:=I.sqB q1
  obtain⟨it2,r2,l2,_⟩:=I.sqB q2
  have e1:=r1.length
  have e2:=r2.length
  refine Ys (nxB b X.prog X.w i1 a1) (nxB b' X.prog X.w i2 a2) (I.ok.hd hc) D hz hTI hTO p1 p2 l1 l2 (by
   rcases hl with q | q
   ·exact .inl (by simp;lia)
   ·exact .inr (by simp;lia)) fun h' kp=>⟨rfl,I.turnedL (t':=s.toks) (ch:=[z,TO,i1,i2]) (fun c hc=>hf c (by
    have hc':c=z\/c=TO\/c=i1\/c=i2:=by simpa using hc
    rcases hc' with rfl | rfl | rfl | rfl<;>simp)) fun c o hc e=>?_⟩
  have hc':¬(c=z\/c=TO\/c=i1\/c=i2):=by simpa using hc
  exact kp c o (fun q=>hc' (.inl q)) (fun q=>hc' (.inr (.inl q))) (fun q=>hc' (.inr (.inr (.inl q)))) (fun q=>hc' (.inr (.inr (.inr q)))) e
 self:=fun A i s Q E st h=>wpAny_pyIter_zip st.1 h
noncomputable abbrev Qew(b:Bool)(l:Addr):Obj:={ cls:=.type (if b then "list_iterator" else "tuple_iterator"),data:=.fields #[.ref l,.int 0 0] }
noncomputable abbrev zH1(b:Bool)(h:Heap)(l1:Addr):Heap:=h.push (Qew b l1)
noncomputable abbrev zH2(b b':Bool)(h:Heap)(l1 l2:Addr):Heap:=(zH1 b h l1).push (Qew b' l2)
noncomputable abbrev zH3(b b':Bool)(h:Heap)(l1 l2:Addr):Heap:=(zH2 b b' h l1 l2).push { cls:=.type "tuple",data:=.seq #[.ref h.objs.size,.ref (zH1 b h l1).objs.size] }
noncomputable abbrev zH4(b b':Bool)(h:Heap)(l1 l2:Addr):Heap:=(zH3 b b' h l1 l2).push { cls:=.type "tuple",data:=.seq #[.none,.none] }
noncomputable abbrev zH5(b b':Bool)(h:Heap)(l1 l2:Addr):Heap:=(zH4 b b' h l1 l2).push { cls:=.type "zip",data:=.fields #[.none,.bool false,.bool false,.ref (zH2 b b' h l1 l2).objs.size,.ref (zH3 b b' h l1 l2).objs.size] }
theorem Qbt(b b':Bool)(l1 l2:Addr)(xs ys:Array Value):
  Meets (Builtin.«zip.__new__» ⟨[.type "zip", .ref l1, .ref l2], []⟩) (fun _ R s => LB b l1 xs s.heap /\ LB b' l2 ys s.heap /\
   R (.ok (.ret (.ref (zH4 b b' s.heap l1 l2).objs.size))) { s with heap:=zH5 b b' s.heap l1 l2 }):=by
 refine .of_wp fun prog w A R s h=>?_
 obtain⟨hp,g,d,tk,os⟩:=s;obtain⟨hl1,hl2,h⟩:=h
 have hsub:=sub_zip
 cases b with
 | true =>
  have hL1:Heap.IsList (Shared.heap ⟨hp,g,d,tk,os⟩) l1 xs:=hl1
  cases b' with
  | true =>
   have hL2:Heap.IsList (Shared.heap ⟨hp.push { cls:=.type "list_iterator",data:=.fields #[.ref l1,.int 0 0] },g,d,tk,os⟩) l2 ys:=Heap.IsList.push hl2 _
   wp_walk using wpAny_pyIter_list hL1,wpAny_pyIter_list hL2
   exact⟨_,rfl,h⟩
  | false =>
   have hL2:Heap.IsTuple (Shared.heap ⟨hp.push { cls:=.type "list_iterator",data:=.fields #[.ref l1,.int 0 0] },g,d,tk,os⟩) l2 ys:=Heap.IsTuple.at hl2 fun o e=>Heap.get?_push_of_some _ e
   wp_walk using wpAny_pyIter_list hL1,wpAny_pyIter_tuple hL2
   exact⟨_,rfl,h⟩
 | false =>
  have hL1:Heap.IsTuple (Shared.heap ⟨hp,g,d,tk,os⟩) l1 xs:=hl1
  cases b' with
  | true =>
   have hL2:Heap.IsList (Shared.heap ⟨hp.push { cls:=.type "tuple_iterator",data:=.fields #[.ref l1,.int 0 0] },g,d,tk,os⟩) l2 ys:=Heap.IsList.push hl2 _
   wp_walk using wpAny_pyIter_tuple hL1,wpAny_pyIter_list hL2
   exact⟨_,rfl,h⟩
  | false =>
   have hL2:Heap.IsTuple (Shared.heap ⟨hp.push { cls:=.type "tuple_iterator",data:=.fields #[.ref l1,.int 0 0] },g,d,tk,os⟩) l2 ys:=Heap.IsTuple.at hl2 fun o e=>Heap.get?_push_of_some _ e
   wp_walk using wpAny_pyIter_tuple hL1,wpAny_pyIter_tuple hL2
   exact⟨_,rfl,h⟩
section
variable {prog:Program}{w:World}{A:Around}{E:Value->Shared->Prop}{s:Shared}
theorem Qdm{b b':Bool}{l1 l2:Addr}{xs ys:Array Value}{Q:Value->Shared->Prop}(hl1:LB b l1 xs s.heap)(hl2:LB b' l2 ys s.heap)
  (h:∀h',IsZip h' (s.heap.objs.size+4) (s.heap.objs.size+2) (s.heap.objs.size+3) .none->IsPair h' (s.heap.objs.size+2) (.ref s.heap.objs.size) (.ref (s.heap.objs.size+1)) ->
   IsPair h' (s.heap.objs.size+3) .none .none->PB b s.heap.objs.size l1 0 h'->PB b' (s.heap.objs.size+1) l2 0 h'->h'.objs.size=s.heap.objs.size+5 ->
   (∀c o,s.heap.get? c=some o->h'.get? c=some o)->Q (.ref (s.heap.objs.size+4)) { s with heap:=h' }):
  wpAny (model prog w) A (call (.type "zip") [.ref l1,.ref l2]) Q E s:=by
 refine callType_new F.called_zip (by decide) (F.typeCall_zip_2 _ _) (F.newCall_zip_2 _ _) (fun obj=>F.args_object_init_3 obj _ _) F.entry_zip_new
  (Qbt b b' l1 l2 xs ys) ⟨hl1,hl2,?_⟩
 have z1:(zH1 b s.heap l1).objs.size=s.heap.objs.size+1:=Heap.size_push ..
 have z2:(zH2 b b' s.heap l1 l2).objs.size=s.heap.objs.size+2:=by rw [Heap.size_push,z1]
 have z3:(zH3 b b' s.heap l1 l2).objs.size=s.heap.objs.size+3:=by rw [Heap.size_push,z2]
 have z4:(zH4 b b' s.heap l1 l2).objs.size=s.heap.objs.size+4:=by rw [Heap.size_push,z3]
 have z5:(zH5 b b' s.heap l1 l2).objs.size=s.heap.objs.size+5:=by rw [Heap.size_push,z4]
 have g5:(zH5 b b' s.heap l1 l2).get? (zH4 b b' s.heap l1 l2).objs.size=some _:=Heap.get?_push_size _ rfl
 have g4:(zH5 b b' s.heap l1 l2).get? (zH3 b b' s.heap l1 l2).objs.size=some _:=Heap.get?_push_of_some _ (Heap.get?_push_size _ rfl)
 have g3:(zH5 b b' s.heap l1 l2).get? (zH2 b b' s.heap l1 l2).objs.size=some _:=Heap.get?_push_of_some _ (Heap.get?_push_of_some _ (Heap.get?_push_size _ rfl))
 have g2:(zH5 b b' s.heap l1 l2).get? (zH1 b s.heap l1).objs.size=some (Qew b' l2):=Heap.get?_push_of_some _ (Heap.get?_push_of_some _ (Heap.get?_push_of_some _ (Heap.get?_push_size _ rfl)))
 have g1:(zH5 b b' s.heap l1 l2).get? s.heap.objs.size=some (Qew b l1):=Heap.get?_push_of_some _ (Heap.get?_push_of_some _ (Heap.get?_push_of_some _ (Heap.get?_push_of_some _ (Heap.get?_push_size _ rfl))))
 show _/\_
 rw [z2,z3,z4]at g5
 rw [z1,z2]at g3
 rw [z3]at g4
 rw [z1]at g2
 rw [z4]
 refine⟨⟨_,g5,rfl⟩,h _ g5 g3 g4 ?_ ?_ z5 fun c o x=>Heap.get?_push_of_some _ (Heap.get?_push_of_some _ (Heap.get?_push_of_some _ (Heap.get?_push_of_some _ (Heap.get?_push_of_some _ x))))⟩
 ·cases b<;>exact⟨_,g1,rfl,rfl⟩
 ·cases b'<;>exact⟨_,g2,rfl,rfl⟩
end
section
variable {X:Cx}
noncomputable def Qlt(b b':Bool)(K:PySem.W.Frag)(ta:TA):TI:=fun σ H R=>ta σ H fun vs H1=>∃a1 a2,vs=[.ref a1,.ref a2]/\(∃xs,SqB b K H1 a1 xs)/\(∃ys,SqB b' K H1 a2 ys)/\R (Itz b b' K a1 a2) H1
theorem QaU{b b':Bool}{e1 e2:Expr}{ta:TA}{elts:List Expr}{kt:Nat}{pt p pos:Pos}(hg:Gl X "zip") (hm:X.mg "zip"=none) (ha:PA X [e1,e2] ta) (hs:starEach [e1,e2] X.env=[(false,eval e1 X.env),(false,eval e2 X.env)]) (hs2:starEach [e2] X.env=[(false,eval e2 X.env)]):
  PI X (.Tuple elts kt pt) (.Call (.Name "zip" p) [e1,e2] [] pos) (Qlt b b' X.K ta):=by
 intro pins s σ H R I h
 refine Call_ (ZX I hg hm PyProof.Rows.boot_zip (PyProof.Rows.callWith_type1 (thn (ha pos pins s σ H _ I h) fun us s1 ⟨vs,H1,I1,r1,q1⟩=>?_) (by rw [hs,hs2]) (by rw [hs2];rfl)))
 obtain⟨a1,a2,e,⟨xs,q1⟩,⟨ys,q2⟩,q⟩:=q1
 subst e
 obtain⟨u,w',rfl,ru,rw'⟩:=QdM r1
 cases(show u=_ from ru)
 cases(show w'=_ from rw')
 obtain⟨it1,v1,l1,_⟩:=I1.sqB q1
 obtain⟨it2,v2,l2,_⟩:=I1.sqB q2
 have hlt1:a1<s1.heap.objs.size:=by
  cases b with
  | true=>obtain⟨o,e,_⟩:=l1;exact Heap.lt_size e
  | false=>obtain⟨o,e,_⟩:=l1;exact Heap.lt_size e
 have hlt2:a2<s1.heap.objs.size:=by
  cases b' with
  | true=>obtain⟨o,e,_⟩:=l2;exact Heap.lt_size e
  | false=>obtain⟨o,e,_⟩:=l2;exact Heap.lt_size e
 refine Qdm l1 l2 fun h' b1 b2 b3 b4 b5 b6 b7=>?_
 refine wpAny_pyIter_zip b1 ?_
 have I2:Inv X pins σ H1 { s1 with heap:=h' }:=I1.kept (t':=s1.toks) b7
 refine⟨_,[s1.heap.objs.size+4,s1.heap.objs.size+2,s1.heap.objs.size+3,s1.heap.objs.size,s1.heap.objs.size+1],_,_,H1,rfl,I2,QdN b b' a1 a2 _ _ _ _ _ (PySem.W.ktu_apart _ _ _ hlt1 hlt2),⟨b1,b2,⟨_,_,b3⟩,b4,b5⟩,fun c hc=>?_,q⟩
 have hc':c=s1.heap.objs.size+4\/c=s1.heap.objs.size+2\/c=s1.heap.objs.size+3\/c=s1.heap.objs.size\/c=s1.heap.objs.size+1:=by simpa using hc
 have le:s1.heap.objs.size<=c:=by rcases hc' with rfl | rfl | rfl | rfl | rfl<;>lia
 exact I1.fpOk le (I1.hok.fresh le)
end
end L2
namespace L2
open PySem PySem.Spec PyProof.Rows
section
variable {X:Cx}
end
end L2
namespace L2
open PySem PySem.Spec PyProof.Rows
noncomputable def Cx.block(X:Cx)(xs:List Str)(scope:Scope)(C:Addr)(s:Shared)(H:Hp)(fp:List Addr):Cx :=
 { X with N:=hideN xs X.N++xs,s₀:=s,H₀:=H,env:=compEnvC scope (QbG X.env.cells scope.names []) C X.env,outer:=X.stack,ex:=fp,fn:=fun _=>false,pn:=[],xe:=fun _ _=>False }
structure CompOk(X:Cx)(xs:List Str)(scope:Scope):Prop where
 kind:scope.kind=.function
 loc:∀x∈xs,scope.names.lookup x=some .local
 all : ∀ y ∈ scope.names, (y.2 = .local -> (y.1 ∈ xs \/ y.1 = ".0") /\ scope.names.lookup y.1 = some .local) /\ y.2 ≠ .cell /\ (y.2 = .free -> X.env.scope.names.lookup y.1 = some .cell \/ X.env.scope.names.lookup y.1 = some .free)
 hid:∀x∈xs,scope.names.lookup (mang x)=none
 nd:xs.Nodup
 dot:(".0":Str)∉X.N
section
variable {X:Cx}{xs:List Str}{scope:Scope}{pins:List (Addr×Obj)}{σ:St}{H:Hp}{s:Shared}{fp:List Addr}
theorem CompOk.free_of(k:CompOk X xs scope)(hk:X.env.scope.kind=.function){y:Str}(h:(relabel scope X.env).names.lookup y=some .cell\/(relabel scope X.env).names.lookup y=some .free):(y,NameKind.free)∈scope.names:=by
 rw [Q7 hk,ZK]at h
 cases q:scope.names.lookup y with
 | none=>rw [q]at h;simp at h
 | some kd =>
  rw [q]at h
  have m:=Z9 q
  cases kd with
  | free=>exact m
  | cell=>exact absurd rfl (k.all _ m).2.1
  | _=>simp at h
theorem CompOk.local_of (k : CompOk X xs scope) (hk : X.env.scope.kind = .function) {y : Str} (h : (relabel scope X.env).names.lookup y = some .local) : y ∈ xs \/ y = ".0" := by
 rw [Q7 hk,ZK]at h
 cases q:scope.names.lookup y with
 | none=>rw [q]at h;simp at h
 | some kd =>
  rw [q]at h
  have m:=Z9 q
  cases kd with
  | «local»=>exact((k.all _ m).1 rfl).1
  | free =>
   simp only [Option.map_some]at h
   split at h<;>cases h
  | _=>simp at h
theorem Zp{cells:List (Str×Addr)}{l:List (Str×NameKind)}{y:Str}{c:Addr}(e:(QbG cells l []).lookup y=some c):cells.lookup y=some c:=by
 rcases JR e with z | z
 ·simp at z
 ·exact z
theorem Qgg{σ:St}{n i:Nat}{v:V}(e:(σ++List.replicate n none)[i]?=some (some v)):σ[i]?=some (some v):=by
 by_cases h:i < σ.length
 ·rw [List.getElem?_append_left h]at e
  exact e
 ·rw [List.getElem?_append_right (by lia),List.getElem?_replicate]at e
  split at e<;>cases e
theorem Inv.block{h₁:Heap}{m:Str->Option Value}{tk:Nat}(I:Inv X pins σ H s)(k:CompOk X xs scope)(hf:∀b∈fp,QaH X pins H b)(hfs:∀b∈fp,b<s.heap.objs.size)
  (hn:h₁.Ns s.heap.objs.size m) (kp:∀b o,s.heap.get? b=some o->h₁.get? b=some o):Inv (X.block xs scope s.heap.objs.size s H fp) [] (σ++List.replicate xs.length none) H { s with heap:=h₁,toks:=tk }:=by
 have hk:X.env.scope.kind=.function:=I.ok.kind
 have fsub:∀b∈fp,b∉frs X.stack:=fun b hb z=>by
  rcases List.mem_cons.mp (I.stkSub b z)with e | e
  ·exact(hf b hb).2.1 e
  ·exact(hf b hb).2.2.1 e
 have okB:(X.block xs scope s.heap.objs.size s H fp).Ok:={
  mod:=I.ok.mod
  kind:=k.kind
  glob:=I.ok.glob
  blt:=I.ok.blt
  above:=Nat.le_refl _
  inj:=fun y z c e1 e2=>I.ok.inj y z c (Zp e1) (Zp e2)
  has:=fun y h=>by
   have m:=k.free_of hk h
   obtain⟨c,hc⟩:=I.ok.has y ((k.all _ m).2.2 rfl)
   exact⟨c,Jh hc (.inl m)⟩
  cab:=fun y c h=>nomatch h
  hd:=I.ok.hd
  frames:=I.ok.frames
  stk:=.inl rfl
  exf:=fun b hb=>⟨Nat.ne_of_lt (hfs b hb),fun y c e=>(hf b hb).2.2.2.2.1 y c (Zp e)⟩
  bs:=I.bs
  bsz:=Nat.le_trans I.ok.bsz I.sz
  noex:=fun b o e hb=>by
   rcases (hf b hb).2.2.2.1 with z | z
   ·exact I.ok.noex b o e z
   ·exact absurd (Nat.lt_of_lt_of_le (Heap.lt_size e) (Nat.le_trans I.ok.bsz z)) (Nat.lt_irrefl _)
  exfs:=fun b hb z=>fsub b hb z
  funs:=I.stack
  frf:=fun b hb=>I.stkFree b hb }
 refine⟨okB,rfl,I.bare,Un.kept kp,⟨m,hn,fun i y v e1 e2 e3=>?_⟩,fun y c e=>?_,I.hok.fresh (Nat.le_refl _),fun y c e=>I.freeC y c (Zp e),(fun p hp=>by cases hp),I.hok.kept kp,?_⟩
 ·have e1:(hideN xs X.N++xs)[i]?=some y:=e1
  have e3:Vis (relabel scope X.env) y:=e3
  have q2:σ[i]?=some (some v):=Qgg e2
  have q0:(hideN xs X.N)[i]?=some y:=by
   have:=(List.getElem?_eq_some_iff.mp q2).1
   rw [I.len,<-Z0 (xs:=xs)]at this
   rw [List.getElem?_append_left this]at e1
   exact e1
  obtain⟨z,q1,⟨zm,rfl⟩ | ⟨zn,rfl⟩⟩:=Qey q0
  ·have no:=k.hid z zm
   have no':(relabel scope X.env).names.lookup (mang z)=none:=by rw [Q7 hk,ZK,no];rfl
   rcases e3 with w | w | w<;>(rw [no']at w;cases w)
  have ym:y∈X.N:=List.mem_of_getElem? q1
  have hcf:(relabel scope X.env).names.lookup y=some .cell\/(relabel scope X.env).names.lookup y=some .free:=by
   rcases e3 with z | z
   ·rcases k.local_of hk z with q | q
    ·exact absurd q zn
    ·exact absurd (q▸ym) k.dot
   ·exact z
  have m':=k.free_of hk hcf
  have xk:=(k.all _ m').2.2 rfl
  obtain⟨mm,hnn,hl⟩:=I.loc
  obtain⟨u,r,l⟩:=hl i y v q1 q2 (.inr xk)
  refine⟨u,r,.inr ⟨hcf,?_⟩⟩
  rcases l with⟨l,_⟩ | ⟨_,c,e,o,ho,hd⟩
  ·have l:X.env.scope.names.lookup y=some .local:=l
   rcases xk with z | z<;>(rw [l]at z;cases z)
  ·exact⟨c,Jh e (.inl m'),o,kp c o ho,hd⟩
 ·obtain⟨v,o,ho,hd⟩:=I.cell y c (Zp e)
  exact⟨v,o,kp c o ho,hd⟩
 ·show(σ++List.replicate xs.length none).length=(hideN xs X.N++xs).length
  simp [I.len,Z0]
noncomputable def PTO(X:Cx)(tl:Option Expr)(tt:TT):Prop:=match tl with
 | none=>∀σ H Q,tt σ H Q->Q true H
 | some c=>PT X c tt
noncomputable def QdY(wi:TI)(n:Nat)(g:TG)(tt:TT)(te:TE):TE:=fun σ H Q=>wi σ H fun J H1=>∀D,H1 D=none->∃W:Nat->Nat->List V->Hp->Prop,(∃m,W 0 m [] (upd H1 D (.lst [])))/\∀i m ys H2,W i m ys H2->H2 D=some (.lst ys) /\
 ((J.stop i H2/\Q (.ref D) H2)\/(J.go i H2/\ys.length<sizeLine/\∀x H3 os,os.length=n->J.yld i H2 x H3->g x (σ++os) H3 fun σ' H4=>(∃os',os'.length=n/\σ'=σ++os')/\tt σ' H4 fun b H5=>if b=true then te σ' H5 fun y H6=>H6 D=some (.lst ys)/\∃m',m'<m/\W (i+1) m' (ys++[y]) (upd H6 D (.lst (ys++[y])))else ∃m',m'<m/\W (i+1) m' ys H5))
theorem YX{pos:Pos}{elt tg iter:Expr}{tl:Option Expr}{g:TG}{tt:TT}{te:TE}{n:Nat}{Q:VK}{it:Addr}{tn:Nat->Heap->Prop}{J:It}{E:Value->Shared->Prop}{RR:Value->Addr->Result->Shared->Prop}(hc:X.calm=true)(k:CompOk X xs scope)
  (hn:xs.length=n) (hg:∀C s H fp,PG (X.block xs scope C s H fp) tg g) (ht:∀C s H fp,PTO (X.block xs scope C s H fp) tl tt) (he:∀C s H fp,PE (X.block xs scope C s H fp) elt te)
  (I2:Inv X pins σ H s) (T:Turn X.prog X.w X.K tg J fp it tn) (st2:tn 0 s.heap) (f2:∀b∈fp,QaH X pins H b)
  (q:∀D,H D=none->∃W:Nat->Nat->List V->Hp->Prop,(∃m,W 0 m [] (upd H D (.lst [])))/\∀i m ys H2,W i m ys H2->H2 D=some (.lst ys) /\
   ((J.stop i H2/\Q (.ref D) H2)\/(J.go i H2/\ys.length<sizeLine/\∀x H3 os,os.length=n->J.yld i H2 x H3->g x (σ++os) H3 fun σ' H4=>(∃os',os'.length=n/\σ'=σ++os')/\tt σ' H4 fun b H5=>if b=true then te σ' H5 fun y H6=>H6 D=some (.lst ys)/\∃m',m'<m/\W (i+1) m' (ys++[y]) (upd H6 D (.lst (ys++[y])))else ∃m',m'<m/\W (i+1) m' ys H5)))
  (hRR:∀D C s' H' m,Inv X pins σ H' s'->s'.heap.Ns C m->QaH X pins H' C->Q (.ref D) H'->RR (.ref D) C (.ok .next) s'):
  wpAny (model X.prog X.w) X.A (newList []) (fun acc s₃=>wpAny (model X.prog X.w) X.A (newFunctionEnv scope X.env.globals (QbG X.env.cells scope.names []) [] X.env.qual none .none (some X.env)) (fun cenv s₄ =>
   codeAny (model X.prog X.w) X.A (.compStart (.ListComp elt [⟨tg,iter,tl.toList,0⟩] scope pos) 0 (.ref it) acc { cenv with scope:=relabel scope X.env }) (RR acc cenv.locals) s₄) E s₃) E s:=by
 have hk:X.env.scope.kind=.function:=I2.ok.kind
 refine wpAny_newObj_type (wpAny_newFunctionEnv (fun y hy=>(k.all y hy).2.1) (by intro y hy;simp at hy) (fun h₁ hns₁ hsb₁=>?_) k.kind)
 dsimp only at hns₁ hsb₁ ⊢
 have hD:H s.heap.objs.size=none:=I2.hok.fresh (Nat.le_refl _)
 obtain⟨W,⟨m0,w0⟩,turn⟩:=q s.heap.objs.size hD
 have I3:Inv X pins σ (upd H s.heap.objs.size (.lst [])) { s with heap:=s.heap.push { cls:=.type "list",dict:=none,data:=.seq ([]:List Value).toArray } }:=
  I2.laid (t':=s.toks) (fun b o e=>Heap.get?_push_of_some _ e) (Nat.le_refl _) (show ObjOk X.prog X.w _ _ _ (.lst [])from⟨Nat.zero_le _,[],_,.nil,Heap.get?_push_size _ rfl⟩)
 have lt2:∀b∈fp,b<s.heap.objs.size:=fun b hb=>by
  obtain⟨o,e,_⟩:=T.obj 0 _ st2 b hb
  exact Heap.lt_size e
 have f3:∀b∈fp,QaH X pins (upd H s.heap.objs.size (.lst [])) b:=fun b hb=>⟨by rw [Qb (Nat.ne_of_lt (lt2 b hb))];exact(f2 b hb).1,(f2 b hb).2⟩
 have lt3:∀b∈fp,b<(s.heap.push { cls:=.type "list",dict:=none,data:=.seq ([]:List Value).toArray }).objs.size:=fun b hb=>by
  rw [Heap.size_push]
  exact Nat.lt_succ_of_lt (lt2 b hb)
 generalize hs3:({ s with heap:=s.heap.push { cls:=.type "list",dict:=none,data:=.seq ([]:List Value).toArray } }:Shared)=s3 at I3
 have e3:s3.heap=s.heap.push { cls:=.type "list",dict:=none,data:=.seq ([]:List Value).toArray }:=by rw [<-hs3]
 rw [<-e3]at hns₁ hsb₁ lt3 ⊢
 have kp:∀b o,s3.heap.get? b=some o->h₁.get? b=some o:=fun b o e=>hsb₁.extBut b o (Nat.ne_of_lt (Heap.lt_size e)) (Heap.get?_push_of_some _ e)
 have IB:=I3.block (tk:=s.toks+([]:List (Str×Value)).length) k f3 lt3 hns₁ kp
 have es:({ s3 with heap:=h₁,toks:=s.toks+([]:List (Str×Value)).length }:Shared)={ s with heap:=h₁,toks:=s.toks+([]:List (Str×Value)).length }:=by rw [<-hs3]
 rw [es]at IB
 generalize hX:X.block xs scope s3.heap.objs.size s3 (upd H s.heap.objs.size (.lst [])) fp=Y at IB
 have HE:PE Y elt te:=hX▸he _ _ _ _
 have HT:PTO Y tl tt:=hX▸ht _ _ _ _
 have HG:PG Y tg g:=hX▸hg _ _ _ _
 have hP:Y.prog=X.prog:=by rw [<-hX];rfl
 have hw:Y.w=X.w:=by rw [<-hX];rfl
 have hK:Y.K=X.K:=by rw [<-hX];rfl
 have hA:Y.A=X.A:=by rw [<-hX];rfl
 have hcY:Y.calm=true:=by rw [<-hX];exact hc
 have hxe:Y.xe=fun _ _=>False:=by rw [<-hX];rfl
 have henv:Y.env=compEnvC scope (QbG X.env.cells scope.names []) s3.heap.objs.size X.env:=by rw [<-hX];rfl
 have fpY:∀{H':Hp},(∀b∈fp,H' b=none)->∀b∈fp,QaH Y [] H' b:=fun hn b hb=>by
  have hb1:=(f2 b hb).2
  rw [<-hX]
  refine⟨hn b hb,?_,fun z=>?_,.inl hb,fun y c e=>hb1.2.2.2.1 y c (Zp e),(fun p hp=>by cases hp)⟩
  ·exact Nat.ne_of_lt (lt3 b hb)
  ·rcases List.mem_cons.mp (I3.stkSub b z)with e | e
   ·exact hb1.1 e
   ·exact hb1.2.1 e
 -- behind the block
 have back:∀{σ':St} {H':Hp} {s':Shared},Inv Y [] σ' H' s'->Inv X pins σ H' s'/\(∃m,s'.heap.Ns s3.heap.objs.size m)/\QaH X pins H' s3.heap.objs.size:=fun {σ' H' s'} J'=>by
  have u:=J'.base
  have os:=J'.os
  have hok:=J'.hok
  have bare:=J'.bare
  obtain⟨mm,hnn,_⟩:=J'.loc
  have fr:=J'.free
  rw [henv]at hnn fr
  rw [<-hX]at u os hok
  refine⟨I3.call' os u hok bare fun b hb=>?_,⟨mm,hnn⟩,I3.fpOk (Nat.le_refl _) fr⟩
  exact⟨(f2 b hb).2.2.2.1,(f2 b hb).2.1,(f2 b hb).2.2.2.2.1,(f2 b hb).2.2.2.2.2⟩
 have loop:∀s₃:Shared,Inv Y [] (σ++List.replicate xs.length none) (upd H s.heap.objs.size (.lst [])) s₃->tn 0 s₃.heap ->
   codeAny (model X.prog X.w) X.A (.compLoop (.ListComp elt [⟨tg,iter,tl.toList,0⟩] scope pos) 0 (.ref it) (.ref s.heap.objs.size) Y.env) (RR (.ref s.heap.objs.size) s3.heap.objs.size) s₃:=by
  intro s₃ J3 t3
  refine QaC (fun m s'=>∃i os H' ys,os.length=n/\Inv Y [] (σ++os) H' s'/\tn i s'.heap/\(∀b∈fp,H' b=none)/\W i m ys H') ?_ m0 ⟨0,_,_,[],by rw [List.length_replicate];exact hn,J3,t3,fun b hb=>(f3 b hb).1,w0⟩
  rintro m s4 ⟨i,os,H4,ys,lo,J4,st4,fr4,w4⟩
  obtain⟨hDl,tr⟩:=turn i m ys H4 w4
  rcases tr with⟨stop,qn⟩ | ⟨go,hz,step⟩
  ·have dn:=T.done Y hP hw hK hcY i [] s4 (σ++os) H4 (notedBy (model X.prog X.w) X.A Y.env fun e s'=>RR (.ref s.heap.objs.size) s3.heap.objs.size (.error e) s') J4 (fpY fr4) st4 stop
   rw [hA]at dn
   refine thn dn fun r s5 ⟨hr,J5⟩=>?_
   subst hr
   obtain⟨I5,⟨m5,n5⟩,f5⟩:=back J5
   exact hRR _ _ _ _ _ I5 n5 f5 qn
  ·have im:=T.item Y hP hw hK hcY i [] s4 (σ++os) H4 (notedBy (model X.prog X.w) X.A Y.env fun e s'=>RR (.ref s.heap.objs.size) s3.heap.objs.size (.error e) s') J4 (fpY fr4) st4 go
   rw [hA]at im
   refine thn im fun r s5 ⟨u,hr,h5⟩=>?_
   subst hr
   refine thn h5 fun _ s6 ⟨v,H6,J6,rv,y6,st6,fr6⟩=>?_
   have J6':=J6.pinned (fpY fr6) (T.obj _ _ st6)
   have noE:∀{EE:Value->Shared->Prop},∀e s',Y.xe e s'->EE e s':=fun {EE} e s' z=>by rw [hxe]at z;exact z.elim
   have asg:=HG _ s6 (σ++os) H6 v u _ J6' rv (step v H6 os lo y6)
   rw [hP,hw,hA]at asg
   refine wpAny_mono asg (fun _ s7 ⟨σ7,H7,J7,⟨os',lo',e7⟩,q7⟩=>?_) noE
   subst e7
   have fin:∀{s9:Shared} {H9:Hp} {m':Nat} {zs:List V},Inv Y ([]++Yt fp s6.heap) (σ++os') H9 s9->m'<m->W (i+1) m' zs H9->∃m',m'<m/\∃i os H' ys,os.length=n/\Inv Y [] (σ++os) H' s9/\tn i s9.heap/\(∀b∈fp,H' b=none)/\W i m' ys H':=fun {s9 H9 m' zs} J9 hm' w9=>by
    refine⟨m',hm',i+1,os',H9,zs,lo',J9.unpinned,T.keep _ _ _ st6 fun b hb ob e=>(J9.pin (b,ob) (List.mem_append_right _ (List.mem_append_right _ (Zx hb e)))).1,fun b hb=>?_,w9⟩
    obtain⟨ob,e,d⟩:=T.obj _ _ st6 b hb
    exact(J9.pin (b,ob) (List.mem_append_right _ (List.mem_append_right _ (Zx hb e)))).2.1
   have tst:wpAny (model X.prog X.w) X.A (forIn tl.toList true fun c r=>if r=true then do let ok <-isTrue c Y.env (eval c Y.env);pure (ForInStep.yield ok)else pure (ForInStep.yield r)) (TP Y ([]++Yt fp s6.heap) (σ++os') fun b H5=>if b=true then te (σ++os') H5 fun y H6=>H6 s.heap.objs.size=some (.lst ys)/\∃m',m'<m/\W (i+1) m' (ys++[y]) (upd H6 s.heap.objs.size (.lst (ys++[y])))else ∃m',m'<m/\W (i+1) m' ys H5) (notedBy (model X.prog X.w) X.A Y.env fun e s'=>RR (.ref s.heap.objs.size) s3.heap.objs.size (.error e) s') s7:=by
    refine QdL ?_
    cases tl with
    | none=>exact⟨H7,J7,HT _ _ _ q7⟩
    | some c =>
     have z:=(show PT Y c tt from HT) _ s7 _ _ _ J7 q7
     rw [hP,hw,hA]at z
     exact wpAny_mono z (fun _ _ h=>h) noE
   refine wpAny_mono tst (fun b s8 ⟨H8,J8,q8⟩=>?_) fun _ _ e=>e
   cases b with
   | false =>
    rw [if_neg Bool.false_ne_true]at q8 ⊢
    obtain⟨m',hm',w8⟩:=q8
    exact fin J8 hm' w8
   | true =>
    rw [if_pos rfl]at q8 ⊢
    have ev:=HE _ s8 _ _ _ J8 q8
    rw [hP,hw,hA]at ev
    refine wpAny_mono ev (fun y s8 ⟨yv,H8,J8,ry,hD8,m',hm',w8⟩=>?_) noE
    have ap:=JF (X:=Y) _ s8 _ H8 (.ref s.heap.objs.size) [yv] (.ref s.heap.objs.size) [y] (fun _ H'=>H'=upd H8 s.heap.objs.size (.lst (ys++[yv]))) J8 rfl (.cons ry .nil) ⟨_,ys,yv,rfl,rfl,hD8,hz,rfl⟩
    rw [hP,hw,hA]at ap
    refine wpAny_mono ap (fun _ s9 ⟨_,H9,J9,_,e9⟩=>?_) noE
    subst e9
    exact fin J9 hm' w8
 have t1:tn 0 h₁:=T.keep 0 _ _ st2 fun b hb o e=>kp b o (by rw [e3];exact Heap.get?_push_of_some _ e)
 have go:=loop _ IB t1
 rw [henv]at go
 refine codeAny_compStart_list ?_ ?_
 ·exact go
 ·exact T.self X.A 0 _ _ _ t1 go
theorem Qcq{pos:Pos}{elt tg iter:Expr}{tl:Option Expr}{wi:TI}{n:Nat}{g:TG}{tt:TT}{te:TE}(hc:X.calm=true)(k:CompOk X xs scope)(hi:PI X tg iter wi)(hn:xs.length=n)(hg:∀C s H fp,PG (X.block xs scope C s H fp) tg g)(ht:∀C s H fp,PTO (X.block xs scope C s H fp) tl tt)(he:∀C s H fp,PE (X.block xs scope C s H fp) elt te)
  (hs:∀v,foldedSetIterable iter X.env v=pure v):PE X (.ListComp elt [⟨tg,iter,tl.toList,0⟩] scope pos) (QdY wi n g tt te):=by
 intro pins s σ H Q I h
 rw [eval_ListComp]
 refine wpAny_comprehension_free (use:=none) rfl hs (YZ fun y hy hf=>I.ok.has y.1 ((k.all y hy).2.2 hf)) k.kind (fun y hy hl=>((k.all y hy).1 hl).2) ?_
 refine thn (hi pins s σ H _ I h) fun v s1 h1=>thn h1 fun itv s2 h2=>?_
 obtain⟨it,fp,tn,J,H2,e,I2,T,st2,f2,q⟩:=h2
 subst e
 refine YX (RR:=fun acc C=>compPost (model X.prog X.w) X.A X.xe none (EP X pins σ Q) acc C) hc k hn hg ht he I2 T st2 f2 q ?_
 intro D C s' H' m I' n' f' q'
 refine⟨m,n',fun h' sb=>?_⟩
 exact⟨.ref D,H',I'.turned (t':=s'.toks) (fun b o hb e=>sb.extBut b o hb e) f'.1 f'.2.1 f'.2.2.2.1 f'.2.2.2.2.1 f'.2.2.2.2.2,rfl,q'⟩
theorem Qf2{pos py spos:Pos}{elt tg iter:Expr}{tl:Option Expr}{wi:TI}{n:Nat}{g:TG}{tt:TT}{te:TE}{y:Str}{j:Nat}(hc:X.calm=true)(hN:X.N.Nodup)(k:CompOk X xs scope)(hi:PI X tg iter wi)(hn:xs.length=n)(hg:∀C s H fp,PG (X.block xs scope C s H fp) tg g)(ht:∀C s H fp,PTO (X.block xs scope C s H fp) tl tt)(he:∀C s H fp,PE (X.block xs scope C s H fp) elt te)
  (hs:∀v,foldedSetIterable iter X.env v=pure v) (hj:X.N[j]?=some y) (hy:Loc X.env.scope y) (hfn:X.fn y=true\/X.env.scope.names.lookup y=some .local):
  PS X (.Assign [.Name y py] (.ListComp elt [⟨tg,iter,tl.toList,0⟩] scope pos) spos) (fun D σ H=>QdY wi n g tt te σ H fun v H1=>D.nx (σ.set j (some v)) H1):=by
 have hsw:∃b,swapsWith (.ListComp elt [⟨tg,iter,tl.toList,0⟩] scope pos) (some (.Name y py)) spos.line X.env=pure b:=⟨_,rfl⟩
 obtain⟨b,hsw⟩:=hsw
 cases b with
 | false=>exact YL hN hj hy (Qcq hc k hi hn hg ht he hs) hsw hfn
 | true =>
  intro pins s σ H D I h
  rw [exec_Assign_Name_used _ _ _ _ hsw]
  refine wpAny_bind (wpAny_standAt (wpAny_bind ?_))
  show wpAny _ _ (do let _ <-comprehension (.ListComp elt [⟨tg,iter,tl.toList,0⟩] scope pos) scope X.env _ (newList []) false (eval iter X.env) (some (assign (.Name y py) X.env))) _ _ s
  refine wpAny_bind (wpAny_mono (wpAny_comprehension_free (use:=some (assign (.Name y py) X.env)) (Q:=fun _ s'=>SP X pins D .next s') rfl hs (YZ fun y hy hf=>I.ok.has y.1 ((k.all y hy).2.2 hf)) k.kind (fun y hy hl=>((k.all y hy).1 hl).2) ?_)
   (fun _ s' hq=>wpAny_pure (wpAny_pure hq)) fun _ _ e=>e)
  refine thn (hi pins s σ H _ I h) fun v s1 h1=>thn h1 fun itv s2 h2=>?_
  obtain⟨it,fp,tn,J,H2,e,I2,T,st2,f2,q⟩:=h2
  subst e
  refine YX (Q:=fun v H1=>D.nx (σ.set j (some v)) H1) (RR:=fun acc C=>compPost (model X.prog X.w) X.A X.xe (some (assign (.Name y py) X.env)) (fun _ s'=>SP X pins D .next s') acc C) hc k hn hg ht he I2 T st2 f2 q ?_
  intro Da C s' H' m I' n' f' q'
  obtain⟨o,es,ep,ho,hd,r⟩:=id n'
  have Ip:Inv X (pins++Yt [C] s'.heap) σ H' s':=I'.pinned (fun b hb=>by
   have e:b=C:=by simpa using hb
   subst e
   exact f') fun b hb=>by
    have e:b=C:=by simpa using hb
    subst e
    exact⟨o,ho,fun v z=>by rw [hd]at z;cases z⟩
  refine thn (Yu (i:=j) hN hj hy hfn _ s' σ H' (.ref Da) (.ref Da) _ Ip rfl q') fun _ s'' ⟨σ2,H2',J2,q2⟩=>?_
  have pc:=J2.pin (C,o) (List.mem_append_right _ (List.mem_append_right _ (Zx (by simp) ho)))
  refine⟨m,⟨o,es,ep,pc.1,hd,r⟩,fun h' sb=>?_⟩
  exact⟨σ2,H2',J2.unpinned.turned (t':=s''.toks) (fun b ob hb e=>sb.extBut b ob hb e) pc.2.1 f'.2.1 f'.2.2.2.1 f'.2.2.2.2.1 f'.2.2.2.2.2,q2⟩
end
end L2
namespace L2
open PySem PySem.Spec PyProof.Rows
section
variable {X:Cx}
noncomputable def Itc(lo c:Int)(n:Nat):It:=⟨fun i _=>i<n,fun i H x H'=>H'=H/\x=.int (lo+i*c),fun i _=>n<=i⟩
theorem Qab{P:Program}{w:World}{K:PySem.W.Frag}{tg:Expr}(it:Addr)(lo c:Int)(n:Nat):Turn P w K tg (Itc lo c n) [it] it (fun i h=>IsRangeIter h it (lo+(i:Nat)*c) ((n:Int) - (i:Nat)) c) where
 mem:=by simp
 obj:=fun i h st b hb=>by
  have e:b=it:=by simpa using hb
  subst e
  exact⟨_,st,fun v z=>by
   have z':Data.fields _=Data.cell v:=z
   cases z'⟩
 keep:=fun i h h' st k=>k it (by simp) _ st
 item:=by
  intro X hP hw hK hc i pins s σ H E I hf st hg
  subst hP hw hK
  obtain⟨f0,f1,f2,f3,f4,f5⟩:=hf it (by simp)
  have W:=Walks.range (prog:=X.prog) (w:=X.w) (I.ok.hd hc) it lo c n
  refine W.item i s _ _ hg st fun v h' tk hv st' kk=>?_
  obtain⟨t,rfl⟩:=hv
  have I1:Inv X pins σ H { s with heap:=h',toks:=tk }:=I.turned (fun b o hb e=>kk b o (by simpa using hb) e) f0 f1 f3 f4 f5
  exact⟨_,rfl,Qas (s:={ s with heap:=h',toks:=tk }) (n:="range_iterator") st' rfl rfl (by decide) ⟨.int (lo+i*c),H,I1,⟨t,rfl⟩,⟨rfl,rfl⟩,st',fun b hb=>(hf b hb).1⟩⟩
 done:=by
  intro X hP hw hK hc i pins s σ H E I hf st hg
  subst hP hw hK
  obtain⟨f0,f1,f2,f3,f4,f5⟩:=hf it (by simp)
  exact wpAny_pyNext_range_end (I.ok.hd hc) st (by have:n<=i:=hg;lia) fun h' eb=>⟨rfl,I.turned (t':=s.toks) (fun b o hb e=>eb b o hb e) f0 f1 f3 f4 f5⟩
 self:=fun _ _ _ _ _ st h=>wpAny_pyIter_rangeiter st h
noncomputable def rngC(a b c:Int):Nat:=if a<b then((b-a-1) / c+1).toNat else 0
theorem QfU{a b c:Int}(h:0<c):Builtin.Range.rangeSize a b c=(rngC a b c:Nat):=by
 unfold rngC Builtin.Range.rangeSize
 rw [if_pos (show c>0 from h)]
 split
 ·have:=Int.ediv_nonneg (a:=b-a-1) (b:=c) (by lia) (by lia)
  lia
 ·rfl
theorem QbZ{a b c:Int}(ha:-(2 ^ 60)<=a)(ha':a<2 ^ 60)(hb:-(2 ^ 60)<=b)(hb':b<2 ^ 60)(h0:0<c)(h1:c<2 ^ 60):Builtin.Range.small a b c=true:=by
 have e:Builtin.Range.rangeSize a b c=if a<b then(b-a-1) / c+1 else 0:=by
  unfold Builtin.Range.rangeSize
  rw [if_pos (show c>0 from h0)]
 have q1:a<b->(b-a-1) / c<=b-a-1:=fun h=>Int.ediv_le_self _ (by lia)
 have q0:a<b->0<=(b-a-1) / c:=fun h=>Int.ediv_nonneg (by lia) (by lia)
 have q2:a<b->c*((b-a-1) / c)<=b-a-1:=fun h=>Int.mul_ediv_self_le (by lia)
 unfold Builtin.Range.small
 rw [e]
 simp only [Builtin.Range.rangeFitsLong,Bool.and_eq_true,Bool.or_eq_true,decide_eq_true_eq,beq_iff_eq,show(c>0)from h0,if_true]
 generalize (b-a-1) / c=d at q0 q1 ⊢
 clear q2
 split
 ·rename_i h
  have:=q0 h
  have:=q1 h
  lia
 ·lia
theorem Qb0{a b:Int}(ha:-(2 ^ 60)<=a)(ha':a<2 ^ 60)(hb:-(2 ^ 60)<=b)(hb':b<2 ^ 60):Builtin.Range.small a b (-1)=true/\Builtin.Range.rangeSize a b (-1)=((a-b).toNat:Nat):=by
 have e:Builtin.Range.rangeSize a b (-1)=((a-b).toNat:Nat):=by
  unfold Builtin.Range.rangeSize
  simp
  lia
 refine⟨?_,e⟩
 unfold Builtin.Range.small
 rw [e]
 simp only [Builtin.Range.rangeFitsLong,Bool.and_eq_true,Bool.or_eq_true,decide_eq_true_eq,beq_iff_eq]
 simp
 lia
noncomputable def QdA(i j c:Int)(n:Nat):Prop:=(0<c/\c<1073741824/\n=rngC i j c)\/(c=-1/\n=(i-j).toNat)
theorem QfN{i j c:Int}{n:Nat}(b1:-(2 ^ 60)<=i)(b2:i<2 ^ 60)(b3:-(2 ^ 60)<=j)(b4:j<2 ^ 60)(h:QdA i j c n):Builtin.Range.small i j c=true/\Builtin.Range.rangeSize i j c=(n:Nat)/\c≠0/\-1073741824<c/\c<1073741824:=by
 rcases h with⟨c0,c1,rfl⟩ | ⟨rfl,rfl⟩
 ·exact⟨QbZ b1 b2 b3 b4 c0 (by lia),QfU c0,by lia,by lia,c1⟩
 ·obtain⟨z1,z2⟩:=Qb0 b1 b2 b3 b4
  exact⟨z1,z2,by lia,by lia,by lia⟩
noncomputable def Qkx(ta:TA):TI:=fun σ H R=>ta σ H fun vs H1=>∃(i j c:Int) (n:Nat),vs=[.int i,.int j,.int c]/\(-(2 ^ 60)<=i/\i<2 ^ 60/\-(2 ^ 60)<=j/\j<2 ^ 60)/\QdA i j c n/\R (Itc i c n) H1
theorem Qci{tg a:Expr}{args:List Expr}{ta:TA}{p pos:Pos}(hg:Gl X "range") (hm:X.mg "range"=none) (ha:PA X (a::args) ta) (he:starEach (a::args) X.env=(false,eval a X.env)::starEach args X.env)
  (hpl:(backTo pos (starEach args X.env)).any (·.1)=false):PI X tg (.Call (.Name "range" p) (a::args) [] pos) (Qkx ta):=by
 intro pins s σ H R I h
 refine Call_ (ZX I hg hm boot_range (PyProof.Rows.callWith_type1 (thn (ha pos pins s σ H _ I h) fun us s1 ⟨vs,H1,I1,r1,q1⟩=>?_) he hpl))
 obtain⟨i,j,c,n,e,⟨b1,b2,b3,b4⟩,so,q⟩:=q1
 obtain⟨sm,sz,cz,c0,c1⟩:=QfN b1 b2 b3 b4 so
 subst e
 cases r1 with
 | cons r rr =>
  obtain⟨x,y,rfl,⟨t',rfl⟩,u',rfl⟩:=Vals.two rr
  obtain⟨t,rfl⟩:=r
  refine call_range_3 (by lia) ?_ (.inl (PyProof.noPylong_small (by lia)))
  have I2:Inv X pins σ H1 { s1 with heap:=s1.heap.push { cls:=.type "range",data:=.fields #[.int i t,.int j t',.int c u'] },toks:=s1.toks }:=I1.kept fun b o e=>Heap.get?_push_of_some _ e
  refine wpAny_pyIter_range (IsRange.new ..) sm ?_
  refine⟨(s1.heap.push { cls:=.type "range",data:=.fields #[.int i t,.int j t',.int c u'] }).objs.size,[(s1.heap.push { cls:=.type "range",data:=.fields #[.int i t,.int j t',.int c u'] }).objs.size],_,_,H1,rfl,
   I2.kept (t':=s1.toks) fun b o e=>Heap.get?_push_of_some _ e,Qab _ i c n,?_,fun b hb=>?_,q⟩
  ·show IsRangeIter _ _ (i+((0:Nat):Int)*c) (((n:Nat):Int) - ((0:Nat):Int)) c
   rw [<-sz]
   have e1:i+((0:Nat):Int)*c=i:=by simp
   have e2:Builtin.Range.rangeSize i j c-((0:Nat):Int)=Builtin.Range.rangeSize i j c:=by simp
   rw [e1,e2]
   exact Heap.get?_push_size _ rfl
  ·have e:b=(s1.heap.push { cls:=.type "range",data:=.fields #[.int i t,.int j t',.int c u'] }).objs.size:=by simpa using hb
   subst e
   exact I2.fpOk (Nat.le_refl _) (I2.hok.fresh (Nat.le_refl _))
end
end L2
namespace L2
open PySem PySem.Spec PyProof.Rows
section
variable {prog:Program}{w:World}{A:Around}{E:Value->Shared->Prop}{s:Shared}
end
section
variable {X:Cx}
end
end L2
namespace Iv
open PySem PySem.Spec PyProof.Rows L2
section
variable {X:Cx}{T:Tbl}{A:Adr}{C:Ctx}{cf:Cf}{m k:Nat}{α:List Addr}{hs:Hs}{H:Hp}{u:U}{v:V}{ρ:Rho}{σ:St}
noncomputable def WJ(A:Adr)(K:PySem.W.Frag)(α:List Addr)(J:It):Wk->Prop
 | .seqL u=>∃a,RU A α u (.ref a)/\J=Itl K a
 | .seqT u=>∃a,RU A α u (.ref a)/\J=Itt K a
 | .rng lo n=>J=Itr lo n
 | .zipB p q x y=>∃a b,RU A α x (.ref a)/\RU A α y (.ref b)/\J=Itz p q K a b
 | .revL _ _=>False
 | .rngC lo c n=>J=Itc lo c n
 | .enmL _=>False
 | .strW x=>J=Its ⟨x.toArray⟩
theorem WJ.mono{K:PySem.W.Frag}{J:It}{α':List Addr}{w:Wk}(p:∀(n:Nat) a,α[n]?=some a->α'[n]?=some a)(h:WJ A K α J w):WJ A K α' J w:=by
 cases w with
 | seqL u=>obtain⟨a,r,e⟩:=h;exact⟨a,r.mono p,e⟩
 | seqT u=>obtain⟨a,r,e⟩:=h;exact⟨a,r.mono p,e⟩
 | rng lo n=>exact h
 | zipB b c x y=>obtain⟨a,b,r,r',e⟩:=h;exact⟨a,b,r.mono p,r'.mono p,e⟩
 | revL u n=>exact False.elim h
 | rngC lo c n=>exact h
 | enmL u=>exact False.elim h
 | strW x=>exact h
noncomputable def gT(K:PySem.W.Frag):Tg->TG
 | .name i=>Qat i
 | .pair i j=>Qlw K 2 (QgI (Qat i) (QgI (Qat j) Qlx))
theorem YJ{b:Bool}{xs:List U}(tx:Txt T A X.K X.mg)(R:Rep T A X.K α hs H)(h:sqU T b u hs=some xs)(r:RU A α u v):∃a vs,v=.ref a/\RUs A α xs vs/\SqB b X.K H a vs:=by
 cases b with
 | true=>exact Ze tx R h r
 | false=>exact Yo tx R h r
theorem Qa7{J:It}{w:Wk}{i:Nat}(tx:Txt T A X.K X.mg)(R:Rep T A X.K α hs H)(W:WJ A X.K α J w)(h:itm T w i hs=some none):J.stop i H:=by
 cases w with
 | seqL u =>
  obtain⟨a,r,rfl⟩:=W
  simp only [itm,Option.map_eq_some_iff,Option.map_eq_none_iff]at h
  obtain⟨xs,e,h⟩:=h
  obtain⟨a',vs,ea,rr,q⟩:=Ze tx R e r
  cases ea
  exact⟨vs,q,by rw [<-rr.length];exact List.getElem?_eq_none_iff.mp h⟩
 | seqT u =>
  obtain⟨a,r,rfl⟩:=W
  simp only [itm,Option.map_eq_some_iff,Option.map_eq_none_iff]at h
  obtain⟨xs,e,h⟩:=h
  obtain⟨a',vs,ea,rr,q⟩:=Yo tx R e r
  cases ea
  exact⟨vs,q,by rw [<-rr.length];exact List.getElem?_eq_none_iff.mp h⟩
 | rng lo n =>
  cases(show J=_ from W)
  simp only [itm,Option.some.injEq]at h
  split at h
  ·cases h
  ·rename_i l
   show n<=i
   lia
 | zipB p q x y =>
  obtain⟨a,b,r1,r2,rfl⟩:=W
  simp only [itm]at h
  split at h
  case h_2=>cases h
  rename_i xs ys e1 e2
  obtain⟨a',vs,ea,rr,q⟩:=YJ tx R e1 r1
  cases ea
  obtain⟨b',ws,eb,rr',q'⟩:=YJ tx R e2 r2
  cases eb
  refine⟨vs,ws,q,q',?_⟩
  unfold two at h
  rw [<-rr.length,<-rr'.length]
  by_cases l1:i<xs.length
  ·by_cases l2:i<ys.length
   ·rw [List.getElem?_eq_getElem l1,List.getElem?_eq_getElem l2]at h
    cases h
   ·exact .inr (by lia)
  ·exact .inl (by lia)
 | revL u n=>exact False.elim W
 | rngC lo c n =>
  cases(show J=_ from W)
  simp only [itm,Option.some.injEq]at h
  split at h
  ·cases h
  ·rename_i l
   show n<=i
   lia
 | enmL u=>exact False.elim W
 | strW x =>
  cases(show J=_ from W)
  simp only [itm,Option.some.injEq,Option.map_eq_none_iff]at h
  show(x.toArray).size<=i
  rw [List.size_toArray]
  exact List.getElem?_eq_none_iff.mp h
theorem Z6{t:Tg}{ρ':Rho}{Q:St->Hp->Prop}(R:Rep T A X.K α hs H)(rs:RS A α ρ σ)(r:RU A α u v)(h:tgt t (.one u) ρ hs=some ρ')(k:∀σ2,RS A α ρ' σ2->Q σ2 H):gT X.K t v σ H Q:=by
 cases t with
 | name i=>cases h;exact k _ (rs.set i r)
 | pair i j =>
  cases u with
  | ref n =>
   obtain⟨a,ha,rfl⟩:=r
   simp only [tgt]at h
   split at h
   case h_2=>cases h
   rename_i x y e
   cases h
   obtain⟨vs,q,rr⟩:=R.h.ob n a _ ha e
   obtain⟨v1,ws,rfl,r1,rr⟩:=QC rr
   obtain⟨v2,ws,rfl,r2,rr⟩:=QC rr
   cases Q4 rr
   exact⟨a,[v1,v2],rfl,SqT.of q,rfl,v1,[v2],rfl,v2,[],rfl,rfl,k _ ((rs.set i r1).set j r2)⟩
  | _=>simp [tgt]at h
theorem Qa8{J:It}{w:Wk}{i:Nat}{x:Im}{t:Tg}{ρ':Rho}(tx:Txt T A X.K X.mg)(R:Rep T A X.K α hs H)(W:WJ A X.K α J w)(rs:RS A α ρ σ)(h:itm T w i hs=some (some x))(ht:tgt t x ρ hs=some ρ'):
  J.go i H/\∀v H' (Q:St->Hp->Prop),J.yld i H v H'->(∀σ2,RS A α ρ' σ2->Rep T A X.K α hs H'->Ext α α H H'->Q σ2 H')->gT X.K t v σ H' Q:=by
 have zip:∀{b c:Bool} {a1 a2:Addr} {xs ys:List U} {vs ws:List V},SqB b X.K H a1 vs->SqB c X.K H a2 ws->RUs A α xs vs->RUs A α ys ws->some (two xs ys i)=some (some x) ->
   (Itz b c X.K a1 a2).go i H/\∀v H' (Q:St->Hp->Prop),(Itz b c X.K a1 a2).yld i H v H'->(∀σ2,RS A α ρ' σ2->Rep T A X.K α hs H'->Ext α α H H'->Q σ2 H')->gT X.K t v σ H' Q:=by
  intro b c a1 a2 xs ys vs ws q1 q2 r1 r2 h
  unfold two at h
  split at h
  case h_2=>cases h
  rename_i x1 y1 e1 e2
  cases h
  obtain⟨v1,f1,g1⟩:=r1.get e1
  obtain⟨v2,f2,g2⟩:=r2.get e2
  refine⟨⟨vs,ws,v1,v2,q1,q2,f1,f2⟩,?_⟩
  rintro v H' Q ⟨p,w1,w2,hp,rfl,rfl,k1,k2⟩ k
  have n1:w1=v1:=Option.some.inj ((k1 vs q1).symm.trans f1)
  have n2:w2=v2:=Option.some.inj ((k2 ws q2).symm.trans f2)
  subst n1 n2
  have ne:∀b y,H b=some y->b≠p:=fun b y e z=>by rw [z,hp]at e;cases e
  have R':Rep T A X.K α hs (upd H p (.tup [w1,w2])):=⟨⟨R.h.len,R.h.nd_keep fun b x _ e=>by rw [Qb (ne _ _ e)];exact e,fun n a o e1 e2=>RO.keep (R.h.ob n a o e1 e2) (fun _ _ e=>e) fun _ y e _=>by rw [Qb (ne _ _ e)];exact e⟩,R.s.keep fun y e _=>by rw [Qb (ne _ _ e)];exact e⟩
  have E':Ext α α H (upd H p (.tup [w1,w2])):=⟨fun _ _ e=>e,fun n a e l=>by have:=getElem?_lt e;lia,fun b o e _=>by rw [Qb (ne _ _ e)];exact e,fun b o kv e=>by rw [Qb (ne _ _ e)];exact e,fun b o e=>⟨o,by rw [Qb (ne _ _ e)];exact e,fun _=>Iff.rfl⟩⟩
  cases t with
  | name i=>simp [tgt]at ht
  | pair i j =>
   cases ht
   exact⟨p,[w1,w2],rfl,SqT.of Qe,rfl,w1,[w2],rfl,w2,[],rfl,rfl,k _ ((rs.set i g1).set j g2) R' E'⟩
 cases w with
 | seqL u =>
  obtain⟨a,r,rfl⟩:=W
  simp only [itm,Option.map_eq_some_iff]at h
  obtain⟨xs,e,y,h,rfl⟩:=h
  obtain⟨a',vs,ea,rr,q⟩:=Ze tx R e r
  cases ea
  obtain⟨v1,f1,g1⟩:=rr.get h
  refine⟨⟨vs,v1,q,f1⟩,?_⟩
  rintro v H' Q ⟨rfl,k1⟩ k
  have n1:v=v1:=Option.some.inj ((k1 vs q).symm.trans f1)
  subst n1
  exact Z6 R rs g1 ht fun σ2 r2=>k σ2 r2 R Ext.refl
 | seqT u =>
  obtain⟨a,r,rfl⟩:=W
  simp only [itm,Option.map_eq_some_iff]at h
  obtain⟨xs,e,y,h,rfl⟩:=h
  obtain⟨a',vs,ea,rr,q⟩:=Yo tx R e r
  cases ea
  obtain⟨v1,f1,g1⟩:=rr.get h
  refine⟨⟨vs,v1,q,f1⟩,?_⟩
  rintro v H' Q ⟨rfl,k1⟩ k
  have n1:v=v1:=Option.some.inj ((k1 vs q).symm.trans f1)
  subst n1
  exact Z6 R rs g1 ht fun σ2 r2=>k σ2 r2 R Ext.refl
 | rng lo n =>
  cases(show J=_ from W)
  simp only [itm,Option.some.injEq]at h
  split at h
  case isFalse=>cases h
  rename_i l
  cases h
  refine⟨l,?_⟩
  rintro v H' Q ⟨rfl,rfl⟩ k
  exact Z6 (u:=.int (lo+i) 0) R rs ⟨_,rfl,Cg.refl _ _⟩ ht fun σ2 r2=>k σ2 r2 R Ext.refl
 | zipB p q x1 y1 =>
  obtain⟨a,b,r1,r2,rfl⟩:=W
  simp only [itm]at h
  split at h
  case h_2=>cases h
  rename_i xs ys e1 e2
  obtain⟨a',vs,ea,rr,q⟩:=YJ tx R e1 r1
  cases ea
  obtain⟨b',ws,eb,rr',q'⟩:=YJ tx R e2 r2
  cases eb
  exact zip q q' rr rr' h
 | revL u n=>exact False.elim W
 | rngC lo c n =>
  cases(show J=_ from W)
  simp only [itm,Option.some.injEq]at h
  split at h
  case isFalse=>cases h
  rename_i l
  cases h
  refine⟨l,?_⟩
  rintro v H' Q ⟨rfl,rfl⟩ k
  exact Z6 (u:=.int (lo+i*c) 0) R rs ⟨_,rfl,Cg.refl _ _⟩ ht fun σ2 r2=>k σ2 r2 R Ext.refl
 | enmL u=>exact False.elim W
 | strW y =>
  cases(show J=_ from W)
  simp only [itm,Option.some.injEq,Option.map_eq_some_iff]at h
  obtain⟨c,hc,rfl⟩:=h
  refine⟨by show i<y.toArray.size;rw [List.size_toArray];exact(List.getElem?_eq_some_iff.mp hc).1,?_⟩
  rintro v H' Q ⟨rfl,c',hc',rfl⟩ k
  have e:c'=c:=by
   have:y[i]?=some c':=by simpa using hc'
   rw [hc]at this
   exact(Option.some.inj this).symm
  subst e
  exact Z6 (u:=.str [c']) R rs rfl ht fun σ2 r2=>k σ2 r2 R Ext.refl
noncomputable def TIW(T:Tbl)(A:Adr)(K:PySem.W.Frag)(f:Rho->Hs->Option (Wk×Hs)):L2.TI:=fun σ H R=>∃α ρ hs w hs',RS A α ρ σ/\Rep T A K α hs H/\f ρ hs=some (w,hs') /\
 ∀α' J H',Ext α α' H H'->Rep T A K α' hs' H'->WJ A K α' J w->R J H'
theorem QdC{tg it:Expr}{t t':L2.TI}(h:PI X tg it t)(i:∀σ H R,t' σ H R->t σ H R):PI X tg it t':=fun pins s σ H R I q=>h pins s σ H R I (i σ H R q)
theorem Qjf{tg it:Expr}{t t':L2.TI}(h:PI X tg it t)(h':PI X tg it t'):PI X tg it (fun σ H R=>t σ H R\/t' σ H R):=fun pins s σ H R I q=>q.elim (h pins s σ H R I) (h' pins s σ H R I)
theorem Qh5{tg it:Expr}{ir:E}{d:Nat}(tx:Txt T A X.K X.mg)(h:PE X it (Iv.TI T A X.K (ev T cf d ir))):PI X tg it (TIW T A X.K (fun ρ hs=>Za T (ev T cf d) ρ (.seq ir) hs)):=by
 refine QdC (Qjf (Qjf (Qf9 h) (Qh3 h)) (Qh4 h)) ?_
 rintro σ H R ⟨α,ρ,hs,w,hs',rs,Rp,e,q⟩
 simp only [Za]at e
 obtain⟨u,h1,e1,e⟩:=Qc e
 simp only [Option.map_eq_some_iff]at e
 obtain⟨w',e2,e⟩:=e
 cases e
 unfold wkS at e2
 split at e2
 ·rename_i xs el
  cases e2
  refine .inl (.inl (TI.run rs Rp e1 fun α1 x H1 E1 R1 r1 rs1=>?_))
  obtain⟨a,vs,rfl,rr,sq⟩:=Ze tx R1 el r1
  exact⟨a,rfl,⟨vs,sq⟩,q α1 _ H1 E1 R1 ⟨a,r1,rfl⟩⟩
 ·split at e2
  ·rename_i xs el
   cases e2
   refine .inl (.inr (TI.run rs Rp e1 fun α1 x H1 E1 R1 r1 rs1=>?_))
   obtain⟨a,vs,rfl,rr,sq⟩:=Yo tx R1 el r1
   exact⟨a,rfl,⟨vs,sq⟩,q α1 _ H1 E1 R1 ⟨a,r1,rfl⟩⟩
  ·split at e2
   ·cases e2
    refine .inr (TI.run rs Rp e1 fun α1 x H1 E1 R1 r1 rs1=>?_)
    exact⟨_,r1,q α1 _ H1 E1 R1 rfl⟩
   ·cases e2
theorem Qac{i:Int}(h:Ql (i*4)=true):-(2 ^ 62)<=i/\i<2 ^ 62:=by
 obtain⟨h1,h2⟩:=Zd h
 constructor<;>lia
theorem Qh6{tg a:Expr}{a':E}{p q:Pos}{d:Nat}(hg:Gl X "range") (hm:X.mg "range"=none) (hns:∀x p,a≠.Starred x p) (h:PE X a (Iv.TI T A X.K (ev T cf d a'))):PI X tg (.Call (.Name "range" p) [a] [] q) (TIW T A X.K (fun ρ hs=>Za T (ev T cf d) ρ (.rng a') hs)):=by
 refine QdC (Qck hg hm (Zv h YN (Qk hns)) (Qk hns)) ?_
 rintro σ H R ⟨α,ρ,hs,w,hs',rs,Rp,e,q⟩
 simp only [Za]at e
 obtain⟨u,h1,e1,e⟩:=Qc e
 split at e
 case h_2=>cases e
 split at e
 case isFalse=>cases e
 rename_i i c
 cases e
 refine TI.run rs Rp e1 fun α1 x H1 E1 R1 r1 rs1=>?_
 obtain⟨j,rfl,cg⟩:=r1
 cases cg.exact
 obtain⟨b1,b2⟩:=Qac c
 exact⟨_,rfl,b1,b2,q α1 _ H1 E1 R1 rfl⟩
theorem Qf8{tg a b:Expr}{a' b':E}{p q:Pos}{d:Nat}(hg:Gl X "range") (hm:X.mg "range"=none) (hna:∀x p,a≠.Starred x p) (hnb:∀x p,b≠.Starred x p) (ha:PE X a (Iv.TI T A X.K (ev T cf d a'))) (hb:PE X b (Iv.TI T A X.K (ev T cf d b'))):PI X tg (.Call (.Name "range" p) [a,b] [] q) (TIW T A X.K (fun ρ hs=>Za T (ev T cf d) ρ (.rng2 a' b') hs)):=by
 have s2:starEach [b] X.env=[(false,eval b X.env)]:=Qk hnb
 have s1:starEach [a,b] X.env=[(false,eval a X.env),(false,eval b X.env)]:=by rw [Qk hna,s2]
 refine QdC (Qcj hg hm (Zv ha (Zv hb YN (Qk hnb)) (Qk hna)) s1 s2) ?_
 rintro σ H R ⟨α,ρ,hs,w,hs',rs,Rp,e,q⟩
 simp only [Za]at e
 obtain⟨u,h1,e1,e⟩:=Qc e
 obtain⟨u2,h2,e2,e⟩:=Qc e
 split at e
 case h_2=>cases e
 split at e
 case isFalse=>cases e
 rename_i i j c
 cases e
 rw [Bool.and_eq_true]at c
 refine TI.run rs Rp e1 fun α1 x H1 E1 R1 r1 rs1=>?_
 refine TI.run rs1 R1 e2 fun α2 y H2 E2 R2 r2 rs2=>?_
 obtain⟨i',rfl,cg⟩:=r1
 cases cg.exact
 obtain⟨j',rfl,cg⟩:=r2
 cases cg.exact
 obtain⟨b1,b2⟩:=Qac c.1
 obtain⟨b3,b4⟩:=Qac c.2
 exact⟨_,_,rfl,⟨b1,b2,b3,b4⟩,q α2 _ H2 (E1.trans E2 R2.h) R2 rfl⟩
theorem Qf6{elts:List Expr}{kt:Nat}{pt:Pos}{a b:Expr}{a' b':E}{p q:Pos}{d:Nat}(tx:Txt T A X.K X.mg)(hg:Gl X "zip") (hm:X.mg "zip"=none) (hna:∀x p,a≠.Starred x p) (hnb:∀x p,b≠.Starred x p) (ha:PE X a (Iv.TI T A X.K (ev T cf d a'))) (hb:PE X b (Iv.TI T A X.K (ev T cf d b'))):
  PI X (.Tuple elts kt pt) (.Call (.Name "zip" p) [a,b] [] q) (TIW T A X.K (fun ρ hs=>Za T (ev T cf d) ρ (.zip a' b') hs)):=by
 have s2:starEach [b] X.env=[(false,eval b X.env)]:=Qk hnb
 have s1:starEach [a,b] X.env=[(false,eval a X.env),(false,eval b X.env)]:=by rw [Qk hna,s2]
 have pa:=Zv ha (Zv hb YN (Qk hnb)) (Qk hna)
 refine QdC (Qjf (Qjf (QaU (b:=true) (b':=true) hg hm pa s1 s2) (QaU (b:=true) (b':=false) hg hm pa s1 s2)) (Qjf (QaU (b:=false) (b':=true) hg hm pa s1 s2) (QaU (b:=false) (b':=false) hg hm pa s1 s2))) ?_
 rintro σ H R ⟨α,ρ,hs,w,hs',rs,Rp,e,q⟩
 simp only [Za]at e
 obtain⟨u1,h1,e1,e⟩:=Qc e
 obtain⟨u2,h2,e2,e⟩:=Qc e
 simp only [Option.map_eq_some_iff]at e
 obtain⟨w',e3,e⟩:=e
 cases e
 unfold wkZ at e3
 simp only at e3
 generalize (Zb T u1 hs').isSome=p at e3
 generalize (Zb T u2 hs').isSome=p' at e3
 split at e3
 case isFalse=>cases e3
 rename_i c
 simp only [Bool.and_eq_true]at c
 obtain⟨xs,l1⟩:=Option.isSome_iff_exists.mp c.1
 obtain⟨ys,l2⟩:=Option.isSome_iff_exists.mp c.2
 cases e3
 have key:Qlt p p' X.K (QfI (Iv.TI T A X.K (ev T cf d a')) (QfI (Iv.TI T A X.K (ev T cf d b')) QjG)) σ H R:=by
  refine TI.run rs Rp e1 fun α1 x H1 E1 R1 r1 rs1=>TI.run rs1 R1 e2 fun α2 y H2 E2 R2 r2 rs2=>?_
  obtain⟨a,vs,rfl,rr,sq⟩:=YJ tx R2 l1 (r1.mono E2.pre)
  obtain⟨b,ws,rfl,rr',sq'⟩:=YJ tx R2 l2 r2
  exact⟨a,b,rfl,⟨vs,sq⟩,⟨ws,sq'⟩,q α2 _ H2 (E1.trans E2 R2.h) R2 ⟨a,b,r1.mono E2.pre,r2,rfl⟩⟩
 cases p<;>cases p'
 ·exact .inr (.inr key)
 ·exact .inr (.inl key)
 ·exact .inl (.inr key)
 ·exact .inl (.inl key)
theorem Qf7{tg a:Expr}{args:List Expr}{es:List E}{p q:Pos}{d:Nat}(hg:Gl X "range") (hm:X.mg "range"=none) (hns:J1 (a::args)) (h:PA X (a::args) (TIA T A X.K (fun ρ hs=>evs (ev T cf d) ρ es hs))):
  PI X tg (.Call (.Name "range" p) (a::args) [] q) (TIW T A X.K (fun ρ hs=>Za T (ev T cf d) ρ (.rngA es) hs)):=by
 refine QdC (Qci hg hm h (Qk (hns a (List.mem_cons_self ..))) (Zn fun z hz=>hns z (List.mem_cons_of_mem _ hz))) ?_
 rintro σ H R ⟨α,ρ,hs,w,hs',rs,Rp,e,q⟩
 simp only [Za]at e
 obtain⟨us,h1,e1,e⟩:=Qc e
 split at e
 case h_2=>cases e
 rename_i i j c
 obtain⟨n,so,ew,c1,c2⟩:∃n,QdA i j c n/\some (Wk.rngC i c n,h1)=some (w,hs')/\Ql (i*16)=true/\Ql (j*16)=true:=by
  split at e
  ·rename_i cc
   simp only [Bool.and_eq_true,decide_eq_true_eq]at cc
   obtain⟨⟨⟨c1,c2⟩,c3⟩,c4⟩:=cc
   exact⟨_,.inl ⟨c3,c4,rfl⟩,e,c1,c2⟩
  ·split at e
   ·rename_i cc
    simp only [Bool.and_eq_true,decide_eq_true_eq]at cc
    obtain⟨⟨c1,c2⟩,rfl⟩:=cc
    exact⟨_,.inr ⟨rfl,rfl⟩,e,c1,c2⟩
   ·cases e
 cases ew
 obtain⟨d1,d2⟩:=Zd c1
 obtain⟨d3,d4⟩:=Zd c2
 refine TIA.run rs Rp e1 fun α1 vs H1 E1 R1 r1 rs1=>?_
 obtain⟨v1,ws,rfl,x1,rr⟩:=QC r1
 obtain⟨v2,ws,rfl,x2,rr⟩:=QC rr
 obtain⟨v3,ws,rfl,x3,rr⟩:=QC rr
 cases Q4 rr
 cases Zl x1
 cases Zl x2
 cases Zl x3
 exact⟨i,j,c,n,rfl,⟨by lia,by lia,by lia,by lia⟩,so,q α1 _ H1 E1 R1 rfl⟩
theorem Rep.aside{D:Addr}{ho:HO}(R:Rep T A X.K α hs H)(hn:D∉α)(hs':∀o u,H D≠some (.frz o u)):Rep T A X.K α hs (upd H D ho):=
 ⟨⟨R.h.len,R.h.nd_keep fun b x hb e=>by rw [Qb (fun(z:b=D)=>hn (z▸hb))];exact e,fun n a o e1 e2=>RO.keep (R.h.ob n a o e1 e2) (fun _ _ e=>e) fun c y e w=>by
   rcases w with rfl | ⟨oz,fs,rfl⟩
   ·have ne:c≠D:=fun z=>hn (z▸List.mem_of_getElem? e1)
    rw [Qb ne];exact e
   ·rw [Qb (fun z=>hs' _ _ (z▸e))];exact e⟩,
  R.s.keep fun y e z=>by
   obtain⟨ob,u,rfl⟩:=z
   have ne:A.s≠D:=fun z=>hs' ob _ (z▸e)
   rw [Qb ne]
   exact e⟩
theorem Rep.adopt{D:Addr}{us:List U}{ys:List V}(R:Rep T A X.K α hs H)(hn:D∉α)(hD:H D=some (.lst ys))(r:RUs A α us ys):Rep T A X.K (α++[D]) (hs++[.lst us]) H:=by
 refine⟨⟨by simp [R.h.len],QcE R.h.nd hn,fun n a o e1 e2=>?_⟩,R.s⟩
 rcases Qz e1 with q | ⟨q1,q2⟩
 ·rcases Qz e2 with z | ⟨z,_⟩
  ·exact RO.keep (R.h.ob n a o q z) Qy fun _ _ e _=>e
  ·have:=getElem?_lt q
   rw [R.h.len]at this
   lia
 ·subst q2
  rcases Qz e2 with z | ⟨_,z⟩
  ·have:=(List.getElem?_eq_some_iff.mp z).1
   rw [<-R.h.len]at this
   lia
  ·subst z
   exact⟨ys,hD,RUs.mono Qy r⟩
theorem RS.pad{p:Rho}{os:St}(rs:RS A α ρ σ)(hl:p.length=os.length)(hp:∀x∈p,x=none):RS A α (ρ++p) (σ++os):=by
 refine⟨by simp [rs.len,hl],fun i u e=>?_⟩
 by_cases l:i < ρ.length
 ·rw [List.getElem?_append_left l]at e
  obtain⟨v,h1,h2⟩:=rs.val i u e
  exact⟨v,by rw [List.getElem?_append_left (List.getElem?_eq_some_iff.mp h1).1];exact h1,h2⟩
 ·rw [List.getElem?_append_right (by lia)]at e
  cases hp _ (List.mem_of_getElem? e)
noncomputable def nN(b:Bool):Nat:=if b then 2 else 1
theorem QaY(b:Bool):(Qbq b).length=nN b:=by cases b<;>rfl
theorem Jy(b:Bool):∀x∈Qbq b,x=none:=by cases b<;>simp [Qbq]
theorem QgH{K:PySem.W.Frag}{b:Bool}{os:St}{Q:St->Hp->Prop}(hl:os.length=nN b)(h:gT K (tgN b σ.length) v (σ++os) H Q):
  gT K (tgN b σ.length) v (σ++os) H fun σ2 H2=>(∃os':St,os'.length=nN b/\σ2=σ++os')/\Q σ2 H2:=by
 cases b with
 | false =>
  have h:Q ((σ++os).set σ.length (some v)) H:=h
  exact⟨⟨os.set 0 (some v),by simp [hl],by rw [List.set_append_right _ _ (Nat.le_refl _),Nat.sub_self]⟩,h⟩
 | true =>
  obtain⟨a,xs,rfl,sq,len,v1,r1,rfl,v2,r2,rfl,e,q⟩:=h
  refine⟨a,_,rfl,sq,len,v1,_,rfl,v2,_,rfl,e,⟨(os.set 0 (some v1)).set 1 (some v2),by simp [hl],?_⟩,q⟩
  rw [List.set_append_right _ _ (Nat.le_refl _),Nat.sub_self,List.set_append_right _ _ (Nat.le_succ _)]
  congr 1
  congr 1
  lia
theorem Qfc{α4:List Addr}{D:Addr}{ho:HO}{H4:Hp}(E4:Ext α α4 H H4)(nD:D∉α)(d3:H D=some ho)(hnt:∀vs,ho≠.tup vs:=by intro _ z;cases z):D∉α4:=fun z=>by
 obtain⟨n,hn⟩:=List.getElem?_of_mem z
 by_cases l:n < α.length
 ·have e1:α[n]?=some α[n]:=List.getElem?_eq_getElem l
  have e2:=E4.pre _ _ e1
  rw [hn]at e2
  cases e2
  exact nD (List.getElem_mem l)
 ·rcases E4.new n D hn (by lia)with q | ⟨vs,q⟩
  ·rw [d3]at q;cases q
  ·rw [d3]at q;exact hnt vs (Option.some.inj q)
theorem Qdh{src:Src}{b:Bool}{t:Option E}{el:E}{d:Nat}{σ:St}{H:Hp}{Q:VK}(tx:Txt T A X.K X.mg)(hl:σ.length=X.N.length)(h:Iv.TI T A X.K (ev T cf (d+1) (.comp src b t el)) σ H Q):
  QdY (TIW T A X.K (fun ρ hs=>Za T (ev T cf d) ρ src hs)) (nN b) (gT X.K (tgN b X.N.length)) (TIT T A X.K (YI (evT T cf d) t)) (Iv.TI T A X.K (ev T cf d el)) σ H Q:=by
 rw [<-hl]
 obtain⟨α,ρ,hs,u,hs',rs,R,e,q⟩:=h
 simp only [ev]at e
 obtain⟨w,h1,e1,e⟩:=Qc e
 obtain⟨us,h2,e2,e⟩:=Qc e
 cases e
 refine⟨α,ρ,hs,w,h1,rs,R,e1,fun α1 J H1 E1 R1 W1 D hD=>?_⟩
 have rs1:=rs.mono E1.pre
 refine⟨fun i m ys H2=>∃αc hc acc,RS A αc ρ σ/\Rep T A X.K αc hc H2/\D∉αc/\H2 D=some (.lst ys)/\RUs A αc acc ys/\Ext α1 αc H1 H2/\WJ A X.K αc J w/\Zy T (ev T cf d) (YI (evT T cf d) t) w b el ρ m i acc hc=some (us,h2),⟨QE T w h1,α1,h1,[],rs1,?_,R1.h.notIn hD,Qe,.nil,?_,W1,e2⟩,?_⟩
 ·exact R1.aside (R1.h.notIn hD) fun o u z=>by rw [hD]at z;cases z
 ·exact⟨fun _ _ e=>e,fun n a e l=>by have:=getElem?_lt e;lia,fun b o e _=>by rw [Qb (fun z=>by rw [z,hD]at e;cases e)];exact e,fun b o kv e=>by rw [Qb (fun z=>by rw [z,hD]at e;cases e)];exact e,fun b o e=>⟨o,by rw [Qb (fun z=>by rw [z,hD]at e;cases e)];exact e,fun _=>Iff.rfl⟩⟩
 rintro i m ys H2 ⟨αc,hc,acc,rsc,Rc,nD,hDl,rr,Ec,Wc,ec⟩
 refine⟨hDl,?_⟩
 cases m with
 | zero=>cases ec
 | succ m =>
  simp only [Zy]at ec
  split at ec
  ·cases ec
  ·rename_i ei
   cases ec
   refine .inl ⟨Qa7 tx Rc Wc ei,?_⟩
   have Ra:=Rc.adopt nD hDl rr
   have Ea:Ext α1 (αc++[D]) H1 H2:=⟨fun n a e=>Qy n a (Ec.pre n a e),fun n a e l=>by
    rcases Qz e with z | ⟨_,z⟩
    ·exact Ec.new n a z l
    ·rw [z];exact .inl hD,Ec.keep,Ec.fz,Ec.tr⟩
   exact q _ _ _ (E1.trans Ea Ra.h) Ra ⟨D,by rw [<-Rc.h.len];exact QH,rfl⟩
  ·rename_i x ei
   split at ec
   ·cases ec
   rename_i ρ' et
   split at ec
   case isFalse=>cases ec
   rename_i small
   obtain⟨c,h3,e3,ec⟩:=Qc ec
   have go:J.go i H2:=(Qa8 tx Rc Wc (rsc.pad (os:=List.replicate (nN b) none) (by rw [QaY];simp) (Jy b)) ei et).1
   refine .inr ⟨go,?_,fun v H3 os lo yl=>?_⟩
   ·have:=rr.length
    rw [sizeLine_eq]
    lia
   have rsn:RS A αc (ρ++Qbq b) (σ++os):=rsc.pad (by rw [QaY,lo]) (Jy b)
   obtain⟨_,stp⟩:=Qa8 tx Rc Wc rsn ei et
   rw [rs.len]at stp
   refine QgH lo (stp v H3 _ yl fun σ2 rs2 R3 E3=>?_)
   have d3:H3 D=some (.lst ys):=E3.keep D _ hDl nD
   refine TIT.run rs2 R3 e3 fun α4 H4 E4 R4 rs4=>?_
   have d4:H4 D=some (.lst ys):=E4.keep D _ d3 nD
   have nD4:=Qfc E4 nD d3
   have Et4:=(Ec.trans E3 R3.h).trans E4 R4.h
   cases c with
   | false =>
    rw [if_neg Bool.false_ne_true]at ec ⊢
    exact⟨m,Nat.lt_succ_self _,α4,h3,acc,rsc.mono E4.pre,R4,nD4,d4,RUs.mono E4.pre rr,Et4,Wc.mono E4.pre,ec⟩
   | true =>
    rw [if_pos rfl]at ec ⊢
    obtain⟨u',h5,e5,ec⟩:=Qc ec
    refine TI.run rs4 R4 e5 fun α5 y H5 E5 R5 r5 rs5=>?_
    have d5:H5 D=some (.lst ys):=E5.keep D _ d4 nD4
    have nD5:=Qfc E5 nD4 d4
    refine⟨d5,m,Nat.lt_succ_self _,α5,h5,acc++[u'],(rsc.mono E4.pre).mono E5.pre,R5.aside nD5 (fun o u z=>by rw [d5]at z;cases z),nD5,Qe,?_,?_,(Wc.mono E4.pre).mono E5.pre,ec⟩
    ·exact Paired.snoc (RUs.mono E5.pre (RUs.mono E4.pre rr)) r5
    ·have Et:=Et4.trans E5 R5.h
     exact⟨Et.pre,Et.new,fun b o e hb=>by rw [Qb (fun z=>by rw [z,hD]at e;cases e)];exact Et.keep b o e hb,fun b o kv e=>by rw [Qb (fun z=>by rw [z,hD]at e;cases e)];exact Et.fz b o kv e,fun b o e=>by
      obtain⟨o',q1,q2⟩:=Et.tr b o e
      exact⟨o',by rw [Qb (fun z=>by rw [z,hD]at e;cases e)];exact q1,q2⟩⟩
end
end Iv
namespace Iv
open PySem PySem.Spec PyProof.Rows L2
section
variable {X:Cx}{T:Tbl}{A:Adr}{C:Ctx}{cf:Cf}{m k:Nat}
theorem QjT{a:Expr}{a':E}{j d:Nat}{p1 p3 p2 pos:Pos}(tx:Txt T A X.K X.mg)(h:PE X a (TI T A X.K (ev T cf d a'))):
  PE X (.Subscript a (.Slice none none (some (.UnaryOp .USub (.Constant (.int 1) j p1) p3)) p2) pos) (TI T A X.K (ev T cf (d+1) (.rev a'))):=by
 refine Q6 (Qh9 h) ?_
 rintro σ H Q ⟨α,ρ,hs,u,hs',rs,R,e,q⟩
 simp only [ev]at e
 obtain⟨u1,h1,e1,e⟩:=Qc e
 split at e
 case h_2=>cases e
 rename_i xs el
 cases e
 refine TI.run rs R e1 fun α1 x H1 E1 R1 r1 rs1=>?_
 obtain⟨b,vs,rfl,rr,sq⟩:=Ze tx R1 el r1
 refine⟨b,vs,rfl,sq,fun p hp=>?_⟩
 obtain⟨R2,E2⟩:=R1.new (p:=p) (o:=.lst xs.reverse) (ho:=.lst vs.reverse) hp ⟨_,Qe,RUs.mono Qy rr.reverse⟩
 exact q _ _ _ (E1.trans E2 R2.h) R2 ⟨p,by rw [<-R1.h.len];exact QH,rfl⟩
theorem QhG{f:Str}{args:List Expr}{a:Expr}{a':E}{p pos:Pos}{d:Nat}(g:GX T A C X)(hh:hdC C=false)(hg:ZQ C f=true)(hx:¬C.bl.contains f=false)(hra:Jc C f args=some a)(h:PE X a (TI T A X.K (ev T cf d a')))(hns:∀x p,a≠.Starred x p):
  PE X (.Call (.Name f p) args [] pos) (TI T A X.K (ev T cf (d+1) (.rev a'))):=by
 unfold Jc at hra
 split at hra
 case isFalse=>cases hra
 rename_i ef
 subst ef
 split at hra
 case h_2=>cases hra
 rename_i r pr a0 p2
 split at hra
 case isFalse=>cases hra
 rename_i c
 cases hra
 simp only [Bool.and_eq_true,decide_eq_true_eq]at c
 obtain⟨⟨⟨c1,c2⟩,c3⟩,c4⟩:=c
 have e1:r=Str.ofString "reversed":=by simpa using c1
 subst e1
 refine Q6 (Qgb (g.calm hh) (Zc g hg) (g.blt _ hx) (Zc g c2) (g.blt _ (by rw [c4];simp)) h (Qk hns)) ?_
 rintro σ H Q ⟨α,ρ,hs,u,hs',rs,R,e,q⟩
 simp only [ev]at e
 obtain⟨u1,h1,e1,e⟩:=Qc e
 split at e
 case h_2=>cases e
 rename_i xs el
 cases e
 refine TI.run rs R e1 fun α1 x H1 E1 R1 r1 rs1=>?_
 obtain⟨b,vs,rfl,rr,sq⟩:=Ze g.txt R1 el r1
 refine⟨b,vs,rfl,sq,fun p hp=>?_⟩
 obtain⟨R2,E2⟩:=R1.new (p:=p) (o:=.lst xs.reverse) (ho:=.lst vs.reverse) hp ⟨_,Qe,RUs.mono Qy rr.reverse⟩
 exact q _ _ _ (E1.trans E2 R2.h) R2 ⟨p,by rw [<-R1.h.len];exact QH,rfl⟩
theorem QhC{tg it:Expr}{src:Src}{d:Nat}(g:GX T A C X)(S:Snd T A C X cf m)(h:compSrc (m+1) C it=some src)(hz:Qjp src=true->∃elts kt pt,tg=.Tuple elts kt pt):PI X tg it (TIW T A X.K (fun ρ hs=>Za T (ev T cf d) ρ src hs)):=by
 have seq:∀{it:Expr} {src:Src},(Qf m C it).map Src.seq=some src->PI X tg it (TIW T A X.K (fun ρ hs=>Za T (ev T cf d) ρ src hs)):=by
  intro it src h
  simp only [Option.map_eq_some_iff]at h
  obtain⟨ir,hi,rfl⟩:=h
  exact Qh5 g.txt (S.e d it ir hi)
 simp only [compSrc]at h
 split at h
 ·rename_i f p args q
  split at h
  case isFalse=>cases h
  rename_i hg
  split at h
  ·exact seq h
  ·split at h
   ·cases h
   rename_i hx
   split at h
   ·rename_i e
    subst e
    split at h
    ·rename_i a
     simp only [Option.map_eq_some_iff]at h
     obtain⟨a',ha,rfl⟩:=h
     exact Qh6 (Zc g hg) (g.blt _ hx) (QF ha) (S.e d a a' ha)
    ·rename_i a b
     simp only [Option.bind_eq_some_iff,Option.map_eq_some_iff]at h
     obtain⟨a',ha,b',hb,rfl⟩:=h
     exact Qf8 (Zc g hg) (g.blt _ hx) (QF ha) (QF hb) (S.e d a a' ha) (S.e d b b' hb)
    ·rename_i a b c
     simp only [Option.map_eq_some_iff]at h
     obtain⟨es,ha,rfl⟩:=h
     exact Qf7 (Zc g hg) (g.blt _ hx) (Qo ha) (S.a d _ es ha)
    ·cases h
   ·split at h
    ·rename_i e
     subst e
     split at h
     ·rename_i a b
      simp only [Option.bind_eq_some_iff,Option.map_eq_some_iff]at h
      obtain⟨a',ha,b',hb,rfl⟩:=h
      obtain⟨elts,kt,pt,rfl⟩:=hz rfl
      exact Qf6 g.txt (Zc g hg) (g.blt _ hx) (QF ha) (QF hb) (S.e d a a' ha) (S.e d b b' hb)
     ·cases h
    ·exact seq h
 ·exact seq h
theorem YO{it:Expr}{src:Src}{env:Env}(h:compSrc m C it=some src):∀x,foldedSetIterable it env x=pure x:=by
 intro x
 cases it<;>first | rfl | skip
 cases m with
 | zero=>simp [compSrc]at h
 | succ m =>
  simp only [compSrc,Option.map_eq_some_iff]at h
  obtain⟨_,h,_⟩:=h
  cases m<;>first | exact nomatch (show(none:Option E)=some _ from h) | simp [Qf]at h
theorem Z3{xs:List Str}{scope:Scope}(g:GX T A C X)(h:YY C xs scope=true):CompOk X xs scope/\∀C0 s H fp,GX T A (C.inner xs scope) (X.block xs scope C0 s H fp):=by
 unfold YY at h
 simp only [Bool.and_eq_true,beq_iff_eq,List.all_eq_true,Bool.not_eq_true',decide_eq_true_eq]at h
 obtain⟨⟨⟨⟨h1,h2⟩,hd⟩,h3⟩,h5⟩:=h
 have nd:(".0":Str)∉X.N:=fun z=>by
  rw [g.N]at z
  rw [List.contains_iff_mem.mpr z]at h5
  cases h5
 refine⟨⟨h1,fun x hx=>(h2 x hx).1,fun y hy=>?_,fun x hx=>(h2 x hx).2,(List.nodup_append.mp hd).2.1,nd⟩,fun C0 s H fp=>?_⟩
 ·have:=h3 y hy
  obtain⟨n,kd⟩:=y
  cases kd with
  | «local» =>
   simp only [Bool.and_eq_true,Bool.or_eq_true,decide_eq_true_eq,beq_iff_eq,List.contains_iff_mem]at this
   exact⟨fun _=>this,(fun z=>nomatch z),fun z=>nomatch z⟩
  | cell=>cases this
  | free =>
   simp only [Bool.or_eq_true,beq_iff_eq]at this
   rw [<-g.sc]at this
   exact⟨(fun z=>nomatch z),(fun z=>nomatch z),fun _=>this⟩
  | _=>exact⟨(fun z=>nomatch z),(fun z=>nomatch z),fun z=>nomatch z⟩
 ·refine⟨g.CT,?_,?_,?_,g.calm,h1,rfl,g.gfn,g.gcl,g.gco,g.gtx,g.blt,g.txt,g.tab⟩
  ·show hideN xs X.N++xs=hideN xs C.N++xs
   rw [g.N]
  ·show(hideN xs X.N++xs).Nodup
   rw [g.N]
   exact hd
  ·show(relabel scope X.env).names=relN C.names scope.names
   rw [Q7 g.kind,g.sc]
theorem QaV{tg:Expr}{b:Bool}{xs:List Str}{scope:Scope}{C0:Addr}{s:Shared}{H:Hp}{fp:List Addr}(g:GX T A C X)(hh:hdC C=false)(k:CompOk X xs scope)(gb:GX T A (C.inner xs scope) (X.block xs scope C0 s H fp))(h:Qjw tg b xs):PG (X.block xs scope C0 s H fp) tg (gT X.K (tgN b X.N.length)):=by
 have nm:∀{x:Str} {p:Pos} {i:Nat},x∈xs->(hideN xs X.N++xs)[i]?=some x->PG (X.block xs scope C0 s H fp) (.Name x p) (Qat i):=fun {x p i} hx hi=>by
  have loc:(X.block xs scope C0 s H fp).env.scope.names.lookup x=some .local:=by
   show(relabel scope X.env).names.lookup x=some .local
   rw [Q7 g.kind,ZK,k.loc x hx]
   rfl
  exact Yu gb.nd hi (.inl loc) (.inr loc)
 rcases h with⟨rfl,x,p,rfl,rfl⟩ | ⟨rfl,x,p,y,q,kt,pt,rfl,rfl⟩
 ·exact nm (by simp) (by rw [<-Z0 (xs:=[x])];simp)
 ·refine Qcl (gb.calm hh) (ZN (nm (by simp) (by rw [<-Z0 (xs:=[x,y])];simp)) (ZN (nm (by simp) ?_) Qah))
  rw [<-Z0 (xs:=[x,y]),List.getElem?_append_right (by lia)]
  simp
noncomputable def CompParts(X:Cx)(elt:Expr)(gens:List Comprehension)(scope:Scope)(t:TE):Prop:=∃tg iter tl xs n wi g tt te,gens=[⟨tg,iter,Option.toList tl,0⟩]/\CompOk X xs scope/\PI X tg iter wi/\xs.length=n/\(∀C s H fp,PG (X.block xs scope C s H fp) tg g)/\(∀C s H fp,PTO (X.block xs scope C s H fp) tl tt)/\(∀C s H fp,PE (X.block xs scope C s H fp) elt te) /\
 (∀v,foldedSetIterable iter X.env v=pure v)/\∀σ H Q,σ.length=X.N.length->t σ H Q->QdY wi n g tt te σ H Q
theorem CompParts.pe{elt:Expr}{gens:List Comprehension}{scope:Scope}{pos:Pos}{t:TE}(hc:X.calm=true)(h:CompParts X elt gens scope t):PE X (.ListComp elt gens scope pos) t:=by
 obtain⟨tg,iter,tl,xs,n,wi,gg,tt,te,rfl,ok,hi,hn,hg,ht,he,hf,imp⟩:=h
 intro pins s σ H Q I q
 exact Qcq hc ok hi hn hg ht he hf pins s σ H Q I (imp σ H Q I.len q)
end
end Iv
namespace Iv
open PySem PySem.Spec PyProof.Rows L2
section
variable {X:Cx}{T:Tbl}{A:Adr}{C:Ctx}{cf:Cf}{m k:Nat}
theorem Qb2{b:Expr}(h:Qe3 b=none):Yl b=true:=by
 cases b with
 | Slice lo hi st p =>
  cases st with
  | none=>cases h
  | some e =>
   simp only [Qe3]at h
   split at h<;>cases h
 | _=>rfl
theorem Qd3{b:Expr}{lo hi:Option Expr}(h:Qe3 b=some (.cut lo hi)):∃p,b=.Slice lo hi none p:=by
 cases b with
 | Slice lo' hi' st p =>
  cases st with
  | none=>cases h;exact⟨p,rfl⟩
  | some e =>
   simp only [Qe3]at h
   split at h<;>cases h
 | _=>cases h
theorem QgA{e:Expr}(h:Qkw e=true):∃j p q,e=.UnaryOp .USub (.Constant (.int 1) j p) q:=by
 unfold Qkw at h
 split at h
 ·exact⟨_,_,_,rfl⟩
 ·cases h
theorem Qd2{b:Expr}(h:Qe3 b=some .rev):∃j p1 p3 p,b=.Slice none none (some (.UnaryOp .USub (.Constant (.int 1) j p1) p3)) p:=by
 cases b with
 | Slice lo hi st p =>
  cases st with
  | none=>cases h
  | some e =>
   simp only [Qe3]at h
   split at h
   ·rename_i c
    simp only [Bool.and_eq_true,Option.isNone_iff_eq_none]at c
    obtain⟨⟨c1,c2⟩,c3⟩:=c
    obtain⟨j,p1,p3,rfl⟩:=QgA c1
    subst c2 c3
    exact⟨j,p1,p3,p,rfl⟩
   ·cases h
 | _=>cases h
theorem QgE{a:Expr}{x:Str}(h:QiJ a=.nm x):∃p,a=.Name x p:=by
 unfold QiJ at h
 split at h
 ·cases h;exact⟨_,rfl⟩
 ·cases h
theorem Qae{a b:Expr}{p:Pos}{d:Nat}{ir:E}(g:GX T A C X)(hu:X.A.units+1<cLine)(S:Snd T A C X cf m)(h:Qf (m+1) C (.Subscript a b p)=some ir):PE X (.Subscript a b p) (TI T A X.K (ev T cf d ir)):=by
 simp only [Qmy]at h
 split at h
 ·rename_i lo hi hb
  obtain⟨p2,rfl⟩:=Qd3 hb
  exact QfQ S h
 ·rename_i hb
  obtain⟨j,p1,p3,p2,rfl⟩:=Qd2 hb
  refine QD fun d=>?_
  simp only [Option.bind_eq_some_iff]at h
  obtain⟨a',ha,h⟩:=h
  cases h
  exact QjT g.txt (S.e d a a' ha)
 ·cases h
 ·rename_i hb
  have hs:=Qb2 hb
  refine QD fun d=>?_
  simp only [Option.bind_eq_some_iff]at h
  obtain⟨b',hb',h⟩:=h
  have gen:((Qf m C a).bind fun a'=>some (E.ix a' b'))=some ir->PE X (.Subscript a b p) (TI T A X.K (ev T cf (d+1) ir)):=fun h=>by
   simp only [Option.bind_eq_some_iff]at h
   obtain⟨a',ha,h⟩:=h
   cases h
   exact Qgy hu g.txt (S.e d a a' ha) (S.e d b b' hb') hs
  split at h
  ·rename_i ks vs hh
   exact absurd hh (by cases a<;>simp [QiJ])
  ·rename_i x hh
   split at h
   ·rename_i k ht
    obtain⟨px,rfl⟩:=QgE hh
    cases h
    unfold QfF at ht
    split at ht
    case isFalse=>cases ht
    rename_i c
    simp only [Bool.and_eq_true,decide_eq_true_eq]at c
    split at ht
    case h_2=>cases ht
    rename_i k' hx
    split at ht
    ·cases ht
     exact QjS g (S.e d b b' hb') hs c.1 c.2 hx
    ·cases ht
   ·exact gen h
  ·exact gen h
theorem hd0{C:Ctx}(h:¬hdC C=true):hdC C=false:=by
 cases q:hdC C with
 | true=>exact absurd q h
 | false=>rfl
theorem Qiw{elt:Expr}{gens:List Comprehension}{scope:Scope}{p:Pos}{ir:E}(h:Qf (m+1) C (.ListComp elt gens scope p)=some ir):hdC C=false:=by
 simp only [QlE]at h
 split at h
 case h_2=>cases h
 split at h
 case isFalse=>cases h
 rename_i ok
 simp only [Bool.and_eq_true,Bool.not_eq_true']at ok
 exact ok.2
theorem Qbn{f:Expr}{args:List Expr}{kws:List Keyword}{p:Pos}{d:Nat}{ir:E}(g:GX T A C X)(F:Fc X T A cf k)(hr:hdC C=false->Room (k+1) X.A)(hu:X.A.units+64<cLine)(S:Snd T A C X cf m)(h:Qf (m+1) C (.Call f args kws p)=some ir):PE X (.Call f args kws p) (TI T A X.K (ev T cf d ir)):=by
 refine QD fun d=>?_
 cases kws with
 | cons kw kws=>cases f<;>exact nomatch (show(none:Option E)=some _ from h)
 | nil =>
  cases f with
  | Name x px =>
   simp only [Qmw]at h
   split at h
   ·cases h
   rename_i hn
   have n1:x≠"__debug__":=fun z=>hn (.inl z)
   have n2:x≠"__name__":=fun z=>hn (.inr (.inl z))
   have hg:ZQ C x=true:=by
    cases q:ZQ C x with
    | true=>rfl
    | false=>exact absurd (.inr (.inr q)) hn
   split at h
   ·rename_i i hx
    split at h
    ·cases h
    rename_i hh
    simp only [Option.bind_eq_some_iff]at h
    obtain⟨es,ha,h⟩:=h
    exact QfT g F ((hr (hd0 hh)).mono (Nat.le_succ _)) S hg n1 hx ha h
   ·cases h
   ·cases h
   ·cases h
   ·split at h
    ·cases h
    rename_i hx
    split at h
    ·rename_i e
     subst e
     split at h
     ·rename_i a t pt
      split at h
      ·rename_i c
       simp only [Option.bind_eq_some_iff]at h
       obtain⟨a',ha,ty,ht,h⟩:=h
       cases h
       exact QjV g S hg hx c.1 c.2.1 c.2.2 ht ha
      ·cases h
     ·cases h
    ·split at h
     ·cases h
     rename_i hh
     have hh:=hd0 hh
     split at h
     ·rename_i ra hra
      simp only [Option.bind_eq_some_iff]at h
      obtain⟨es,ha,h⟩:=h
      cases h
      exact nomatch hra
     ·split at h
      ·rename_i a hra
       simp only [Option.bind_eq_some_iff]at h
       obtain⟨a',ha,h⟩:=h
       cases h
       exact QhG g hh hg hx hra (S.e d a a' ha) (QF ha)
      ·simp only [Option.bind_eq_some_iff]at h
       obtain⟨b,hb,es,ha,h⟩:=h
       cases h
       exact Ql3 g hh (by lia) S hg n1 n2 hb ha
  | Attribute o x pa =>
   simp only [Qmv]at h
   split at h
   case isFalse=>cases h
   rename_i c
   simp only [Bool.and_eq_true,decide_eq_true_eq]at c
   split at h
   ·cases h
   ·simp only [Option.bind_eq_some_iff]at h
    obtain⟨b,hb,o',ho,es,ha,h⟩:=h
    cases h
    exact Ql2 (by lia) g.txt S hb c.1.1 c.1.2 c.2 ho ha
  | _=>exact nomatch (show(none:Option E)=some _ from h)
theorem QeL{e:Expr}{u:U}(h:Qdg e=some u):∃v k,RK u k/\v=kV k/\PE X e (tC v):=by
 unfold Qdg at h
 split at h
 ·cases h;exact⟨_,Sum.inl _,⟨rfl,rfl⟩,rfl,Qco⟩
 ·cases h;exact⟨_,Sum.inr _,rfl,rfl,Qcn⟩
 ·cases h
theorem Qb5{d:Nat}{pos:Pos}(S:Snd T A C X cf m):∀{ks:List (Option Expr)} {vs:List Expr} {kk:List U} {es:List E},Jg ks=some kk->Qfg (Qf m C) vs=some es->kk.length=vs.length->∃trs keys,RKs kk keys/\PPs X pos ks vs trs /\
  ∀{α:List Addr} {ρ:Rho} {σ:St} {hs h1:Hs} {H:Hp} {us:List U} {Q:List (V×V)->Hp->Prop},RS A α ρ σ->Rep T A X.K α hs H->evs (ev T cf d) ρ es hs=some (us,h1)->(∀α1 zs H1,Ext α α1 H H1->Rep T A X.K α1 h1 H1->RUs A α1 us zs->Q ((keys.map kV).zip zs) H1)->QaM trs σ H Q
 | [],[],kk,es,h1,h2,hl=>by
  cases h1
  cases h2
  refine⟨[],[],.nil,Qf4,fun rs R e q=>?_⟩
  simp only [evs]at e
  cases e
  exact q _ [] _ Ext.refl R .nil
 | [],_::_,kk,es,h1,h2,hl=>by cases h1;cases hl
 | none::_,_,kk,es,h1,h2,hl=>by cases h1
 | some k::ks,[],kk,es,h1,h2,hl=>by
  simp only [Jg,Option.bind_eq_some_iff]at h1
  obtain⟨k',_,r,_,h1⟩:=h1
  cases h1
  cases hl
 | some k::ks,v::vs,kk,es,h1,h2,hl=>by
  simp only [Jg,Option.bind_eq_some_iff]at h1
  obtain⟨k',hk,r,hr,h1⟩:=h1
  cases h1
  simp only [Qfg,Option.bind_eq_some_iff]at h2
  obtain⟨e',he,es',hes,h2⟩:=h2
  cases h2
  obtain⟨trs,keys,rk,pp,rd⟩:=Qb5 (d:=d) (pos:=pos) S hr hes (by simpa using hl)
  obtain⟨kv,key,rk0,rfl,pk⟩:=QeL (X:=X) hk
  refine⟨(tC (kV key),TI T A X.K (ev T cf d e'))::trs,key::keys,.cons rk0 rk,Qed pk (S.e d v e' he) pp,fun {α ρ σ hs h1 H us Q} rs R e q=>?_⟩
  simp only [evs]at e
  obtain⟨u,h2,e1,e⟩:=Qc e
  obtain⟨us',h3,e2,e⟩:=Qc e
  cases e
  exact TI.run rs R e1 fun α1 y H1 E1 R1 r1 rs1=>rd rs1 R1 e2 fun α2 zs H2 E2 R2 r2=>q α2 (y::zs) H2 (E1.trans E2 R2.h) R2 (.cons (r1.mono E2.pre) r2)
theorem QeT:∀{keys:List Key} {zs:List V},keys.length=zs.length->(keys.map kV).zip zs=(keys.zip zs).map fun kv=>(kV kv.1,kv.2)
 | [],[],_=>rfl
 | k::ks,z::zs,h=>by simp only [List.map_cons,List.zip_cons_cons,QeT (keys:=ks) (zs:=zs) (by simpa using h)]
 | [],_::_,h=>by cases h
 | _::_,[],h=>by cases h
theorem RKs.zip{α:List Addr}:∀{kk us:List U} {keys:List Key} {zs:List V},RKs kk keys->RUs A α us zs->RD A α (kk.zip us) (keys.zip zs)
 | _,_,_,_,.nil,_=>.nil
 | _,_,_,_,.cons _ _,.nil=>.nil
 | _,_,_,_,.cons a t,.cons b r=>.cons ⟨a,b⟩ (RKs.zip t r)
theorem Qa2{α β:Type}{f:α->Option β}:∀{xs:List α} {ys:List β},Qfg f xs=some ys->ys.length=xs.length
 | [],ys,h=>by cases h;rfl
 | x::r,ys,h=>by
  simp only [Qfg,Option.bind_eq_some_iff]at h
  obtain⟨b,_,bs,h2,h⟩:=h
  cases h
  rw [List.length_cons,List.length_cons,Qa2 h2]
theorem JQ:∀{ks:List (Option Expr)} {kk:List U},Jg ks=some kk->ks.all (·.isSome)=true/\kk.length=ks.length
 | [],kk,h=>by cases h;exact⟨rfl,rfl⟩
 | none::_,kk,h=>by cases h
 | some k::ks,kk,h=>by
  simp only [Jg,Option.bind_eq_some_iff]at h
  obtain⟨k',_,r,hr,h⟩:=h
  cases h
  have ih:=JQ hr
  exact⟨by simpa using ih.1,by simp [ih.2]⟩
theorem QjW{ks:List (Option Expr)}{vs:List Expr}{p:Pos}{d:Nat}{ir:E}(S:Snd T A C X cf m)(h:((Jg ks).bind fun kk=>if kk.length=vs.length/\kk.length<=15/\kk≠[]then(Qfg (Qf m C) vs).bind fun es=>some (E.dsp kk es)else none)=some ir):PE X (.Dict ks vs p) (TI T A X.K (ev T cf d ir)):=by
 simp only [Option.bind_eq_some_iff]at h
 obtain⟨kk,hk,h⟩:=h
 split at h
 case isFalse=>cases h
 rename_i c
 simp only [Option.bind_eq_some_iff]at h
 obtain⟨es,hes,h⟩:=h
 cases h
 obtain⟨c1,c2,c3⟩:=c
 obtain⟨al,kl⟩:=JQ hk
 refine QD fun d=>?_
 obtain⟨trs,keys,rk,pp,rd⟩:=Qb5 (d:=d) (pos:=p) S hk hes c1
 refine Q6 (Qgd pp al (by lia) (fun z=>by subst z;exact c3 (List.length_eq_zero_iff.mp (by simpa using kl))) (by lia)) ?_
 rintro σ H Q ⟨α,ρ,hs,u,hs',rs,R,e,q⟩
 simp only [ev]at e
 obtain⟨us,h1,e1,e⟩:=Qc e
 split at e
 case h_2=>cases e
 rename_i e2
 cases e
 intro b hb
 obtain⟨R',E'⟩:=R.new (o:=.dic []) (ho:=.dK []) hb ⟨[],Qe,.nil⟩
 have l0:=R.h.len
 refine rd (rs.mono E'.pre) R' e1 fun α1 zs H1 E1 R1 r1=>?_
 have ub:α1[hs.length]?=some b:=E1.pre _ _ (by rw [<-l0];exact QH)
 obtain⟨kv,ekv,rkv⟩:=R1.h.ob hs.length b _ ub e2
 cases rkv
 have zl:keys.length=zs.length:=by rw [<-Paired.length rk,<-r1.length,Yy e1,Qa2 hes,c1]
 refine⟨ekv,keys.zip zs,QeT zl,?_,?_⟩
 ·rw [List.length_zip,<-Paired.length rk];lia
 obtain⟨R2,E2⟩:=R1.put (o:=.dic (QcF [] (kk.zip us))) (ho:=.dK (YR [] (keys.zip zs))) ub ⟨_,Qe,RG.merge Qbc (RKs.zip rk r1) .nil⟩
 exact q α1 (.ref b) _ ((E'.trans E1 R1.h).trans E2 R2.h) R2 ⟨b,ub,rfl⟩
theorem Qb6(g:GX T A C X)(F:Fc X T A cf k)(hr:hdC C=false->Room (k+1) X.A)(hu:X.A.units+64<cLine)(S:Snd T A C X cf m)(cp:∀d elt gens scope p ir,Qf (m+1) C (.ListComp elt gens scope p)=some ir->CompParts X elt gens scope (TI T A X.K (ev T cf d ir)))(d:Nat)(e:Expr)(ir:E)(h:Qf (m+1) C e=some ir):PE X e (TI T A X.K (ev T cf d ir)):=by
 cases e with
 | Constant c j p=>exact QfS h
 | Name x p=>exact QhF g h
 | BinOp a o b p=>exact QjY S h
 | UnaryOp o a p =>
  cases o with
  | USub=>exact QjU S h
  | Not=>exact(QhE g.txt S h).1
  | _=>exact nomatch (show(none:Option E)=some _ from h)
 | BoolOp o vs p =>
  cases vs with
  | nil=>cases o<;>first | exact nomatch (show(none:Option E)=some _ from h) | simp [Qf]at h
  | cons a r =>
   cases o with
   | And=>exact(S.an d a r p ir h).2
   | Or=>exact(S.orr d a r p ir h).2
 | Compare a os bs p =>
  match os,bs,h with
  | [o],[b],h=>exact(QhI g.txt g.tab hu S h).1
  | [_,_],[_,_],h=>exact nomatch (show(none:Option E)=some _ from h)
  | [],_,h=>exact nomatch (show(none:Option E)=some _ from h)
  | [_],[],h=>exact nomatch (show(none:Option E)=some _ from h)
  | [_],_::_::_,h=>exact nomatch (show(none:Option E)=some _ from h)
  | [_,_],[],h=>exact nomatch (show(none:Option E)=some _ from h)
  | [_,_],[_],h=>exact nomatch (show(none:Option E)=some _ from h)
  | [_,_],_::_::_::_,h=>exact nomatch (show(none:Option E)=some _ from h)
  | _::_::_::_,_,h=>exact nomatch (show(none:Option E)=some _ from h)
 | IfExp t a b p=>exact QfR S h
 | Tuple es j p=>exact QfO S h
 | List es p=>exact QhH S h
 | Subscript a b p=>exact Qae g (by lia) S h
 | ListComp elt gens scope p=>exact(cp d elt gens scope p ir h).pe (g.calm (Qiw h))
 | Dict ks vs p =>
  cases ks with
  | cons k0 ks=>exact QjW S (by simpa only [Qmt]using h)
  | nil =>
   cases vs with
   | cons v0 vs=>exact nomatch (show(none:Option E)=some _ from h)
   | nil =>
    simp only [Qmu]at h
    cases h
    refine QD fun d=>Q6 Qei ?_
    rintro σ H Q ⟨α,ρ,hs,u,hs',rs,R,e,q⟩
    simp only [ev]at e
    cases e
    intro p hp
    obtain⟨R',E'⟩:=R.new (o:=.dic []) hp ⟨[],Qe,.nil⟩
    exact q _ _ _ E' R' ⟨p,by rw [<-R.h.len];exact QH,rfl⟩
 | Attribute a f p=>exact QhJ g S h
 | Call f args kws p=>exact Qbn g F hr hu S h
 | _=>exact nomatch (show(none:Option E)=some _ from h)
theorem Q8{e:Expr}{ir:E}{d:Nat}(g:GX T A C X)(he:∀whole,isTrue e X.env whole=(do let v <-whole;standAt e.pos;holding [v] (truthy v)))(h:∀d,PE X e (TI T A X.K (ev T cf d ir)))(hir:∀d ρ hs,evT T cf (d+1) ir ρ hs=bd (ev T cf d ir ρ hs) fun u h1=>(Zg T u h1).map fun b=>(b,h1)):
  PT X e (TIT T A X.K (evT T cf d ir)):=by
 refine QaR fun d=>?_
 refine Qg5 (Qd9 (h d) he) ?_
 rintro σ H Q ⟨α,ρ,hs,u,hs',rs,R,e,q⟩
 rw [hir]at e
 obtain⟨u1,h1,e1,e⟩:=Qc e
 simp only [Option.map_eq_some_iff]at e
 obtain⟨b,e2,e⟩:=e
 cases e
 exact TI.run rs R e1 fun α1 x H1 E1 R1 r1 rs1=>⟨_,QbT g.txt R1 e2 r1,q α1 H1 E1 R1⟩
theorem Q1{ir:E}(h:Qe8 ir=true):∀d ρ hs,evT T cf (d+1) ir ρ hs=bd (ev T cf d ir ρ hs) fun u h1=>(Zg T u h1).map fun b=>(b,h1):=by
 intro d ρ hs
 cases ir<;>first | rfl | cases h
theorem QhA(g:GX T A C X)(F:Fc X T A cf k)(hr:hdC C=false->Room (k+1) X.A)(hu:X.A.units+64<cLine)(S:Snd T A C X cf m)(cp:∀d elt gens scope p ir,Qf (m+1) C (.ListComp elt gens scope p)=some ir->CompParts X elt gens scope (TI T A X.K (ev T cf d ir)))(d:Nat)(e:Expr)(ir:E)(hne:∀t a b p,e≠.IfExp t a b p)(ok:okT e ir=true)(h:Qf (m+1) C e=some ir):PT X e (TIT T A X.K (evT T cf d ir)):=by
 have all:=fun d=>Qb6 g F hr hu S cp d e ir h
 cases e with
 | Constant c j p=>exact Q8 g (fun _=>rfl) all (Q1 ok)
 | Name x p=>exact Q8 g (fun _=>rfl) all (Q1 ok)
 | BinOp a o b p=>exact Q8 g (fun _=>rfl) all (Q1 ok)
 | UnaryOp o a p =>
  cases o with
  | USub=>exact Q8 g (fun _=>rfl) all (Q1 ok)
  | Not=>exact(QhE g.txt S h).2
  | _=>exact nomatch (show(none:Option E)=some _ from h)
 | BoolOp o vs p =>
  cases vs with
  | nil=>cases o<;>first | exact nomatch (show(none:Option E)=some _ from h) | simp [Qf]at h
  | cons a r =>
   cases o with
   | And=>exact(S.an d a r p ir h).1.pt
   | Or=>exact(S.orr d a r p ir h).1.pt
 | Compare a os bs p =>
  match os,bs,h with
  | [o],[b],h=>exact(QhI g.txt g.tab hu S h).2
  | [_,_],[_,_],h=>exact nomatch (show(none:Option E)=some _ from h)
  | [],_,h=>exact nomatch (show(none:Option E)=some _ from h)
  | [_],[],h=>exact nomatch (show(none:Option E)=some _ from h)
  | [_],_::_::_,h=>exact nomatch (show(none:Option E)=some _ from h)
  | [_,_],[],h=>exact nomatch (show(none:Option E)=some _ from h)
  | [_,_],[_],h=>exact nomatch (show(none:Option E)=some _ from h)
  | [_,_],_::_::_::_,h=>exact nomatch (show(none:Option E)=some _ from h)
  | _::_::_::_,_,h=>exact nomatch (show(none:Option E)=some _ from h)
 | IfExp t a b p=>exact absurd rfl (hne t a b p)
 | Tuple es j p=>exact Q8 g (fun _=>rfl) all (Q1 ok)
 | List es p=>exact Q8 g (fun _=>rfl) all (Q1 ok)
 | Subscript a b p=>exact Q8 g (fun _=>rfl) all (Q1 ok)
 | ListComp elt gens scope p=>exact Q8 g (fun _=>rfl) all (Q1 ok)
 | Dict ks vs p=>exact Q8 g (fun _=>rfl) all (Q1 ok)
 | Attribute a f p=>exact Q8 g (fun _=>rfl) all (Q1 ok)
 | Call f args kws p=>exact Q8 g (fun _=>rfl) all (Q1 ok)
 | _=>exact nomatch (show(none:Option E)=some _ from h)
theorem QlV:Snd T A C X cf 0 where
 e:=fun d e ir h=>by first | exact nomatch (show(none:Option E)=some _ from h) | simp [Qf]at h
 t:=fun d e ir h=>by simp [compT]at h
 an:=fun d a r p ir h=>by simp [compAnd]at h
 orr:=fun d a r p ir h=>by simp [compOr]at h
 a:=fun d es irs h=>by simp [compA]at h
 o:=fun d e ir h=>by simp [compO]at h
structure Snd2(T:Tbl)(A:Adr)(C:Ctx)(X:Cx)(cf:Cf)(m:Nat):Prop where
 s:Snd T A C X cf m
 w:∀d it src tg,compSrc m C it=some src->(Qjp src=true->∃elts kt pt,tg=.Tuple elts kt pt)->PI X tg it (TIW T A X.K (fun ρ hs=>Za T (ev T cf d) ρ src hs))
 c:∀d elt gens scope p ir,Qf m C (.ListComp elt gens scope p)=some ir->CompParts X elt gens scope (TI T A X.K (ev T cf d ir))
theorem QhY{tl:Option Expr}{t:Option E}{Y:Cx}{C':Ctx}{d:Nat}(S:Snd T A C' Y cf m)(h:compTO (m+1) C' tl=some t):PTO Y tl (TIT T A Y.K (YI (evT T cf d) t)):=by
 cases tl with
 | none =>
  simp only [compTO]at h
  cases h
  rintro σ H Q ⟨α,ρ,hs,u,hs',rs,R,e,q⟩
  simp only [YI]at e
  cases e
  exact q α H Ext.refl R
 | some e =>
  simp only [compTO,Option.bind_eq_some_iff]at h
  obtain⟨e',he,h⟩:=h
  cases h
  exact(S.t d e e' he).1
theorem QbU{tg:Expr}{b:Bool}{xs:List Str}{src:Src}(ht:Qjw tg b xs)(ok:Qak src (tgN b 0)=true):Qjp src=true->∃elts kt pt,tg=.Tuple elts kt pt:=by
 intro hp
 rcases ht with⟨rfl,_⟩ | ⟨rfl,x,p,y,q,k,pt,rfl,_⟩
 ·cases src<;>first | (cases hp;done) | (cases ok;done)
 ·exact⟨_,_,_,rfl⟩
theorem YW(g:GX T A C X)(S:Snd2 T A C X cf m)(SB:∀xs scope C0 s H fp,YY C xs scope=true->Snd2 T A (C.inner xs scope) (X.block xs scope C0 s H fp) cf m)(ST:∀xs scope C0 s H fp tl t d,YY C xs scope=true->compTO m (C.inner xs scope) tl=some t->PTO (X.block xs scope C0 s H fp) tl (TIT T A X.K (YI (evT T cf d) t)))(d:Nat)(elt:Expr)(gens:List Comprehension)(scope:Scope)(p:Pos)(ir:E)
  (h:Qf (m+1) C (.ListComp elt gens scope p)=some ir):CompParts X elt gens scope (TI T A X.K (ev T cf d ir)):=by
 simp only [QlE]at h
 split at h
 case h_2=>cases h
 rename_i gn hgen
 split at h
 case isFalse=>cases h
 rename_i ok
 simp only [Bool.and_eq_true,Bool.not_eq_true']at ok
 obtain⟨ok,hh⟩:=ok
 simp only [Option.bind_eq_some_iff]at h
 obtain⟨src,hsrc,h⟩:=h
 split at h
 case isFalse=>cases h
 rename_i oks
 simp only [Option.bind_eq_some_iff]at h
 obtain⟨t,ht,el,hel,h⟩:=h
 cases h
 obtain⟨tg,rfl,htg⟩:=QbB hgen
 obtain⟨ck,gb⟩:=Z3 g ok
 have hn:gn.xs.length=nN gn.b:=by
  rcases htg with⟨e,x,p,_,e'⟩ | ⟨e,x,p,y,q,k,pt,_,e'⟩<;>rw [e,e']<;>rfl
 cases d with
 | zero =>
  exact⟨tg,gn.iter,gn.tl,gn.xs,nN gn.b,_,_,TIT T A X.K (YI (evT T cf 0) t),TI T A X.K (ev T cf 0 el),rfl,ck,S.w 0 gn.iter src tg hsrc (QbU htg oks),hn,(fun C0 s H fp=>QaV g hh ck (gb C0 s H fp) htg),(fun C0 s H fp=>ST _ _ C0 s H fp _ _ 0 ok ht),(fun C0 s H fp=>show PE _ elt (TI T A X.K (ev T cf 0 el))from(SB _ scope C0 s H fp ok).s.e 0 elt el hel),YO hsrc,fun σ H Q _ ⟨_,_,_,_,_,_,_,e,_⟩=>nomatch e⟩
 | succ d =>
  exact⟨tg,gn.iter,gn.tl,gn.xs,nN gn.b,_,_,TIT T A X.K (YI (evT T cf d) t),TI T A X.K (ev T cf d el),rfl,ck,S.w d gn.iter src tg hsrc (QbU htg oks),hn,(fun C0 s H fp=>QaV g hh ck (gb C0 s H fp) htg),(fun C0 s H fp=>ST _ _ C0 s H fp _ _ d ok ht),(fun C0 s H fp=>show PE _ elt (TI T A X.K (ev T cf d el))from(SB _ scope C0 s H fp ok).s.e d elt el hel),YO hsrc,fun σ H Q hl hq=>Qdh g.txt hl hq⟩
theorem Qd1:∀(m:Nat) {C:Ctx} {X:Cx},GX T A C X->Fc X T A cf k->(hdC C=false->Room (k+1) X.A)->X.A.units+64<cLine->Snd2 T A C X cf m
 | 0,C,X,g,F,hr,hu=>⟨QlV,fun d it src tg h=>by simp [compSrc]at h,fun d elt gens scope p ir h=>by first | exact nomatch (show(none:Option E)=some _ from h) | simp [Qf]at h⟩
 | 1,C,X,g,F,hr,hu=>by
  have S0:=Qd1 0 g F hr hu
  have S:=S0.s
  have cp:=YW g S0 (fun x scope C0 s H fp ok=>Qd1 0 ((Z3 g ok).2 C0 s H fp) ⟨F.ok,F.some,F.df,F.xf⟩ hr hu) (fun xs scope C0 s H fp tl t d ok h=>by simp [compTO]at h)
  refine⟨⟨Qb6 g F hr hu S cp,fun d e ir h=>?_,QhK S,Qk9 S,Qe5 S,QhD S⟩,fun d it src tg h hz=>QhC g S h hz,cp⟩
  cases e<;>exact nomatch (show(none:Option E)=some _ from h)
 | m+2,C,X,g,F,hr,hu=>by
  have S1:=Qd1 (m+1) g F hr hu
  have S:=S1.s
  have S':=Qd1 m g F hr hu
  have cp:=YW g S1 (fun x scope C0 s H fp ok=>Qd1 (m+1) ((Z3 g ok).2 C0 s H fp) ⟨F.ok,F.some,F.df,F.xf⟩ hr hu) (fun xs scope C0 s H fp tl t d ok h=>QhY (Qd1 m ((Z3 g ok).2 C0 s H fp) ⟨F.ok,F.some,F.df,F.xf⟩ hr hu).s h)
  refine⟨⟨Qb6 g F hr hu S cp,fun d e ir h=>?_,QhK S,Qk9 S,Qe5 S,QhD S⟩,fun d it src tg h hz=>QhC g S h hz,cp⟩
  have hne:∀t a b p,e≠.IfExp t a b p:=by
   rintro t a b p rfl
   simp [compT]at h
  have h':((Qf (m+1) C e).bind fun ir=>if okT e ir=true then some ir else none)=some ir:=by
   cases e<;>first | exact h | (simp [compT]at h;done)
  simp only [Option.bind_eq_some_iff]at h'
  obtain⟨ir',he,h'⟩:=h'
  split at h'
  ·rename_i ok
   cases h'
   exact⟨QhA g F hr hu S'.s S1.c d e ir hne ok he,S.e d e ir he⟩
  ·cases h'
end
end Iv
namespace Iv
open PySem PySem.Spec PyProof.Rows L2
section
variable {X:Cx}{T:Tbl}{A:Adr}{C:Ctx}{cf:Cf}{m k:Nat}
theorem ZM{st:Stmt}{t:TS}(h:∀D σ H,¬t D σ H):PS X st t:=fun _ _ σ H D _ q=>(h D σ H q).elim
theorem Z4{st:List Stmt}{t:TS}(h:∀D σ H,¬t D σ H):PSs X st t:=fun _ _ σ H D _ q=>(h D σ H q).elim
theorem JE{e:Expr}{ir:E}{tg:Option Expr}{l:Nat}{env:Env}(h:Qf m C e=some ir)(hn:∀elt gens scope p,e≠.ListComp elt gens scope p):swapsWith e tg l env=pure false:=by
 cases e<;>first | rfl | exact absurd rfl (hn _ _ _ _) | (cases m<;>exact nomatch (show(none:Option E)=some _ from h))
theorem Qjk{tg:Expr}{t:Tg}(hc:X.calm=true)(g:GX T A C X)(fl:∀x,X.fn x=true\/X.env.scope.names.lookup x=some .local)(h:Yd C tg=some t):PG X tg (gT X.K t):=by
 have nm:∀{x:Str} {p:Pos} {i:Nat},JL C x=true->idx x C.N=some i->PG X (.Name x p) (Qat i):=fun {x p i} h1 h2=>Yu g.nd (by rw [g.N];exact Zf h2) (YS g h1) (fl x)
 unfold Yd at h
 split at h
 ·split at h
  ·rename_i hl
   simp only [Option.map_eq_some_iff]at h
   obtain⟨i,hi,rfl⟩:=h
   exact nm hl hi
  ·cases h
 ·split at h
  ·rename_i c
   simp only [Bool.and_eq_true]at c
   simp only [Option.bind_eq_some_iff,Option.map_eq_some_iff]at h
   obtain⟨i,hi,j,hj,rfl⟩:=h
   exact Qcl hc (ZN (nm c.1.1 hi) (ZN (nm c.1.2 hj) Qah))
  ·cases h
 ·cases h
theorem Qgr{e:Expr}{es:List Expr}{kt:Nat}{p:Pos}{ir:E}{l:Nat}{env:Env}(h:Qf m C e=some ir):swapsWithSole [.Tuple es kt p] e l env=pure false:=by
 cases e<;>first | rfl | (cases m<;>exact nomatch (show(none:Option E)=some _ from h))
theorem JD{e:Expr}{es:List Expr}{kt:Nat}{p:Pos}{env:Env}(h:Qfe e=true):swappedStores [.Tuple es kt p] e env=pure none:=by
 cases e<;>first | rfl | cases h
theorem QeE{e:Expr}(h:QkI e=some true):∃x j q,e=.Constant (.str x) j q:=by
 cases e with
 | Constant c j q=>cases c<;>first | exact⟨_,_,_,rfl⟩ | cases h
 | _=>cases h
theorem Qbh{ts:List Expr}{a:As}(h:Qg3 ts=some a):∃t,ts=[t]/\as1 t=some a:=by
 match ts,h with
 | [t],h=>exact⟨t,rfl,h⟩
theorem QaF{ts:List Expr}{x:Str}(h:Qg3 ts=some (.nm x)):∃p,ts=[.Name x p]:=by
 obtain⟨t,rfl,h'⟩:=Qbh h
 clear h
 have h:=h'
 clear h'
 unfold as1 at h
 split at h
 ·cases h;exact⟨_,rfl⟩
 ·cases h
 ·cases h
 ·split at h
  ·unfold QfC at h;split at h<;>cases h
  ·cases h
 ·cases h
theorem QeS{ts:List Expr}{x y:Str}{p q:Pos}(h:Qg3 ts=some (.two x p y q)):∃kt pt,ts=[.Tuple [.Name x p,.Name y q] kt pt]:=by
 obtain⟨t,rfl,h'⟩:=Qbh h
 clear h
 have h:=h'
 clear h'
 unfold as1 at h
 split at h
 ·cases h
 ·cases h
 ·cases h
 ·split at h
  ·unfold QfC at h
   split at h
   ·cases h;exact⟨_,_,rfl⟩
   ·cases h
  ·cases h
 ·cases h
theorem ZZ{x:Str}(h:Yc C x=true):C.names.lookup x=some .local:=by
 unfold Yc at h
 split at h
 ·rename_i e;exact e
 ·cases h
theorem Qe0{tg:Expr}{t:Tg}{src:Src}(ht:Yd C tg=some t)(ok:Qak src t=true):Qjp src=true->∃elts kt pt,tg=.Tuple elts kt pt:=by
 intro hp
 cases tg with
 | Tuple elts kt pt=>exact⟨_,_,_,rfl⟩
 | Name x p =>
  simp only [Yd]at ht
  split at ht
  ·simp only [Option.map_eq_some_iff]at ht
   obtain⟨i,_,rfl⟩:=ht
   cases src<;>first | (cases hp;done) | (cases ok;done)
  ·cases ht
 | _=>simp [Yd]at ht
structure SndS(T:Tbl)(A:Adr)(C:Ctx)(X:Cx)(cf:Cf)(m:Nat):Prop where
 s:∀d st ir,Q9 m C st=some ir->PS X st (TIS T A X.K (ex T cf d ir))
 ss:∀d sts irs,compSs m C sts=some irs->PSs X sts (TIS T A X.K (exs T cf d irs))
theorem Qkq{K:PySem.W.Frag}{ir:S}:∀D σ H,¬TIS T A K (ex T cf 0 ir) D σ H:=fun _ _ _ ⟨_,_,_,_,_,_,_,_,h,_⟩=>nomatch h
theorem Qff{K:PySem.W.Frag}{irs:List S}:∀D σ H,¬TIS T A K (exs T cf 0 irs) D σ H:=fun _ _ _ ⟨_,_,_,_,_,_,_,_,h,_⟩=>nomatch h
theorem QaT{st:Stmt}{ir:S}{d:Nat}(h:∀d',PS X st (TIS T A X.K (ex T cf (d'+1) ir))):PS X st (TIS T A X.K (ex T cf d ir)):=by
 cases d with
 | zero=>exact ZM Qkq
 | succ d=>exact h d
theorem TIS.run{K:PySem.W.Frag}{α:List Addr}{ρ ρ':Rho}{σ:St}{hs h1:Hs}{H:Hp}{f:Ex}{fl:Fl}{D:Ends}(rs:RS A α ρ σ)(rp:Rep T A K α hs H)(h:f ρ hs=some (fl,ρ',h1))
  (k:∀α1 σ1 H1,Ext α α1 H H1->Rep T A K α1 h1 H1->RS A α1 ρ' σ1->flE A α1 D σ1 H1 fl):TIS T A K f D σ H:=⟨α,ρ,hs,fl,ρ',h1,rs,rp,h,k⟩
theorem QeD{d:Nat}{body:List S}{w:Wk}{t:Tg}{J:It}{K:PySem.W.Frag}{D:Ends}{α0:List Addr}{H0:Hp}{σ0:St}{ρ0 ρ':Rho}{h0 hs':Hs}{fl:Fl}{n:Nat}(hK:K=X.K)(tx:Txt T A X.K X.mg)(rs0:RS A α0 ρ0 σ0)(R0:Rep T A X.K α0 h0 H0)(W0:WJ A X.K α0 J w)
  (e0:Qaa T w t (exs T cf d body) n 0 ρ0 h0=some (fl,ρ',hs'))
  (q:∀α' σ' H',Ext α0 α' H0 H'->Rep T A X.K α' hs' H'->RS A α' ρ' σ'->flE A α' D σ' H' fl):
  ∃W:Nat->Nat->St->Hp->Prop,(∃m,W 0 m σ0 H0)/\∀i m σ H,W i m σ H->(J.stop i H/\D.nx σ H)\/(J.go i H/\∃N:St->Hp->Prop,(∀σ' H',N σ' H'->∃m',m'<m/\W (i+1) m' σ' H') /\
   ∀x H',J.yld i H x H'->gT X.K t x σ H' fun σ2 H2=>TIS T A X.K (exs T cf d body) { D with nx:=N,ct:=N,bk:=D.nx } σ2 H2):=by
 refine⟨fun i m σ H=>∃α ρ hs,RS A α ρ σ/\Rep T A X.K α hs H/\Ext α0 α H0 H/\Qaa T w t (exs T cf d body) m i ρ hs=some (fl,ρ',hs'),⟨n,α0,ρ0,h0,rs0,R0,Ext.refl,e0⟩,?_⟩
 rintro i m σ H ⟨α,ρ,hs,rs,R,E,e⟩
 cases m with
 | zero=>cases e
 | succ m =>
  have W:=W0.mono E.pre
  simp only [Qaa]at e
  split at e
  ·cases e
  ·rename_i ei
   cases e
   exact .inl ⟨Qa7 tx R W ei,q α σ H E R rs⟩
  ·rename_i x ei
   split at e
   ·cases e
   ·rename_i ρ1 et
    obtain⟨go,yl⟩:=Qa8 tx R W rs ei et
    refine .inr ⟨go,fun σ' H'=>∃α ρ hs,RS A α ρ σ'/\Rep T A X.K α hs H'/\Ext α0 α H0 H'/\Qaa T w t (exs T cf d body) m (i+1) ρ hs=some (fl,ρ',hs'),fun σ' H' z=>⟨m,Nat.lt_succ_self _,z⟩,?_⟩
    intro v H' hy
    refine yl v H' _ hy fun σ2 rs2 R2 E2=>?_
    have E02:Ext α0 α H0 H':=E.trans E2 R2.h
    split at e
    ·rename_i ρ2 h2 eb
     exact TIS.run rs2 R2 eb fun α3 σ3 H3 E3 R3 rs3=>⟨α3,ρ2,h2,rs3,R3,E02.trans E3 R3.h,e⟩
    ·rename_i ρ2 h2 eb
     exact TIS.run rs2 R2 eb fun α3 σ3 H3 E3 R3 rs3=>⟨α3,ρ2,h2,rs3,R3,E02.trans E3 R3.h,e⟩
    ·rename_i ρ2 h2 eb
     cases e
     exact TIS.run rs2 R2 eb fun α3 σ3 H3 E3 R3 rs3=>q α3 σ3 H3 (E02.trans E3 R3.h) R3 rs3
    ·rename_i n1 n2 n3
     cases fl with
     | next=>exact absurd e (n1 _ _)
     | cont=>exact absurd e (n2 _ _)
     | brk=>exact absurd e (n3 _ _)
     | ret u=>exact TIS.run rs2 R2 e fun α3 σ3 H3 E3 R3 rs3=>q α3 σ3 H3 (E02.trans E3 R3.h) R3 rs3
theorem QhS{α:List Addr}:∀{kvs:List (U×U)} {kv:List (Key×V)} {i:Nat} {p:U×U} {q:Key×V},RD A α kvs kv->kvs[i]?=some p->kv[i]?=some q->RK p.1 q.1
 | _,_,i,p,q,.nil,h1,h2=>by simp at h1
 | _,_,0,p,q,.cons r t,h1,h2=>by
  simp at h1 h2
  subst h1 h2
  exact r.1
 | _,_,i+1,p,q,.cons r t,h1,h2=>QhS (i:=i) t (by simpa using h1) (by simpa using h2)
theorem QhN{α:List Addr}:∀{kvs:List (List U×U)} {kv:List (List Key×V)} {i:Nat} {p:List U×U} {q:List Key×V},RT A α kvs kv->kvs[i]?=some p->kv[i]?=some q->RKs p.1 q.1/\RU A α p.2 q.2
 | _,_,i,p,q,.nil,h1,h2=>by simp at h1
 | _,_,0,p,q,.cons r t,h1,h2=>by
  simp at h1 h2
  subst h1 h2
  exact r
 | _,_,i+1,p,q,.cons r t,h1,h2=>QhN (i:=i) t (by simpa using h1) (by simpa using h2)
theorem Qc1{d:Nat}{body:List S}{i0:Nat}{a:Addr}{ob:Obj}{kv:List (Key×V)}{kvs:List (U×U)}{D:Ends}{α0:List Addr}{H0:Hp}{σ0:St}{ρ0 ρ':Rho}{h0 hs':Hs}{fl:Fl}(rs0:RS A α0 ρ0 σ0)(R0:Rep T A X.K α0 h0 H0)
  (hz:H0 a=some (.frz ob (.dK kv))) (rd:RD A α0 kvs kv)
  (e0:Qfn i0 (exs T cf d body) (kvs.map (·.1)) ρ0 h0=some (fl,ρ',hs'))
  (q:∀α' σ' H',Ext α0 α' H0 H'->Rep T A X.K α' hs' H'->RS A α' ρ' σ'->flE A α' D σ' H' fl):
  ∃W:Nat->Nat->St->Hp->Prop,(∃m,W 0 m σ0 H0)/\∀i m σ H,W i m σ H->((Itk a ob kv).stop i H/\D.nx σ H)\/((Itk a ob kv).go i H/\∃N:St->Hp->Prop,(∀σ' H',N σ' H'->∃m',m'<m/\W (i+1) m' σ' H') /\
   ∀x H',(Itk a ob kv).yld i H x H'->gT X.K (.name i0) x σ H' fun σ2 H2=>TIS T A X.K (exs T cf d body) { D with nx:=N,ct:=N,bk:=D.nx } σ2 H2):=by
 have hl:=Paired.length rd
 refine⟨fun i m σ H=>∃α ρ hs,RS A α ρ σ/\Rep T A X.K α hs H/\Ext α0 α H0 H/\m+i=kvs.length/\Qfn i0 (exs T cf d body) ((kvs.drop i).map (·.1)) ρ hs=some (fl,ρ',hs'),⟨kvs.length,α0,ρ0,h0,rs0,R0,Ext.refl,rfl,e0⟩,?_⟩
 rintro i m σ H ⟨α,ρ,hs,rs,R,E,hm,e⟩
 have hzi:=E.fz a ob (.dK kv) hz
 cases m with
 | zero =>
  rw [List.drop_of_length_le (by lia)]at e
  simp only [List.map_nil,Qfn]at e
  cases e
  exact .inl ⟨⟨hzi,by lia⟩,q α σ H E R rs⟩
 | succ m =>
  have hi:i<kvs.length:=by lia
  rw [List.drop_eq_getElem_cons hi,List.map_cons]at e
  simp only [Qfn]at e
  refine .inr ⟨⟨hzi,by lia⟩,fun σ' H'=>∃α ρ hs,RS A α ρ σ'/\Rep T A X.K α hs H'/\Ext α0 α H0 H'/\m+(i+1)=kvs.length/\Qfn i0 (exs T cf d body) ((kvs.drop (i+1)).map (·.1)) ρ hs=some (fl,ρ',hs'),fun σ' H' z=>⟨m,Nat.lt_succ_self _,z⟩,?_⟩
  rintro x H' ⟨rfl,p,hp,rfl⟩
  have rk:RK kvs[i].1 p.1:=QhS rd (List.getElem?_eq_getElem hi) hp
  have rs2:=rs.set i0 (QhO (A:=A) (α:=α) rk)
  show TIS T A X.K (exs T cf d body) _ _ _
  split at e
  ·rename_i ρ2 h2 eb
   exact TIS.run rs2 R eb fun α3 σ3 H3 E3 R3 rs3=>⟨α3,ρ2,h2,rs3,R3,E.trans E3 R3.h,by lia,e⟩
  ·rename_i ρ2 h2 eb
   exact TIS.run rs2 R eb fun α3 σ3 H3 E3 R3 rs3=>⟨α3,ρ2,h2,rs3,R3,E.trans E3 R3.h,by lia,e⟩
  ·rename_i ρ2 h2 eb
   cases e
   exact TIS.run rs2 R eb fun α3 σ3 H3 E3 R3 rs3=>q α3 σ3 H3 (E.trans E3 R3.h) R3 rs3
  ·rename_i n1 n2 n3
   cases fl with
   | next=>exact absurd e (n1 _ _)
   | cont=>exact absurd e (n2 _ _)
   | brk=>exact absurd e (n3 _ _)
   | ret u=>exact TIS.run rs2 R e fun α3 σ3 H3 E3 R3 rs3=>q α3 σ3 H3 (E.trans E3 R3.h) R3 rs3
theorem Qc0{d:Nat}{body:List S}{i0:Nat}{a:Addr}{ob:Obj}{kv:List (List Key×V)}{kvs:List (List U×U)}{D:Ends}{α0:List Addr}{H0:Hp}{σ0:St}{ρ0 ρ':Rho}{h0 hs':Hs}{fl:Fl}(rs0:RS A α0 ρ0 σ0)(R0:Rep T A X.K α0 h0 H0)
  (hz:H0 a=some (.frz ob (.dT kv))) (rd:RT A α0 kvs kv)
  (e0:Qfm i0 (exs T cf d body) (kvs.map (·.1)) ρ0 h0=some (fl,ρ',hs'))
  (q:∀α' σ' H',Ext α0 α' H0 H'->Rep T A X.K α' hs' H'->RS A α' ρ' σ'->flE A α' D σ' H' fl):
  ∃W:Nat->Nat->St->Hp->Prop,(∃m,W 0 m σ0 H0)/\∀i m σ H,W i m σ H->((Qhc a ob kv).stop i H/\D.nx σ H)\/((Qhc a ob kv).go i H/\∃N:St->Hp->Prop,(∀σ' H',N σ' H'->∃m',m'<m/\W (i+1) m' σ' H') /\
   ∀x H',(Qhc a ob kv).yld i H x H'->gT X.K (.name i0) x σ H' fun σ2 H2=>TIS T A X.K (exs T cf d body) { D with nx:=N,ct:=N,bk:=D.nx } σ2 H2):=by
 have hl:=Paired.length rd
 refine⟨fun i m σ H=>∃α ρ hs,RS A α ρ σ/\Rep T A X.K α hs H/\Ext α0 α H0 H/\m+i=kvs.length/\Qfm i0 (exs T cf d body) ((kvs.drop i).map (·.1)) ρ hs=some (fl,ρ',hs'),⟨kvs.length,α0,ρ0,h0,rs0,R0,Ext.refl,rfl,e0⟩,?_⟩
 rintro i m σ H ⟨α,ρ,hs,rs,R,E,hm,e⟩
 have hzi:=E.fz a ob (.dT kv) hz
 cases m with
 | zero =>
  rw [List.drop_of_length_le (by lia)]at e
  simp only [List.map_nil,Qfm]at e
  cases e
  exact .inl ⟨⟨hzi,by lia⟩,q α σ H E R rs⟩
 | succ m =>
  have hi:i<kvs.length:=by lia
  rw [List.drop_eq_getElem_cons hi,List.map_cons]at e
  simp only [Qfm]at e
  refine .inr ⟨⟨hzi,by lia⟩,fun σ' H'=>∃α ρ hs,RS A α ρ σ'/\Rep T A X.K α hs H'/\Ext α0 α H0 H'/\m+(i+1)=kvs.length/\Qfm i0 (exs T cf d body) ((kvs.drop (i+1)).map (·.1)) ρ hs=some (fl,ρ',hs'),fun σ' H' z=>⟨m,Nat.lt_succ_self _,z⟩,?_⟩
  rintro x H' ⟨rfl,p,b,hp,rfl,hb⟩
  have rk:RKs kvs[i].1 p.1:=(QhN rd (List.getElem?_eq_getElem hi) hp).1
  obtain⟨R1,E1⟩:=R.alias hb rk
  have at1:(α++[b])[hs.length]?=some b:=by rw [<-R.h.len];exact QH
  have rs2:=(rs.mono E1.pre).set i0 (u:=.ref hs.length) (v:=.ref b) ⟨b,at1,rfl⟩
  have E2:=E.trans E1 R1.h
  show TIS T A X.K (exs T cf d body) _ _ _
  split at e
  ·rename_i ρ2 h2 eb
   exact TIS.run rs2 R1 eb fun α3 σ3 H3 E3 R3 rs3=>⟨α3,ρ2,h2,rs3,R3,E2.trans E3 R3.h,by lia,e⟩
  ·rename_i ρ2 h2 eb
   exact TIS.run rs2 R1 eb fun α3 σ3 H3 E3 R3 rs3=>⟨α3,ρ2,h2,rs3,R3,E2.trans E3 R3.h,by lia,e⟩
  ·rename_i ρ2 h2 eb
   cases e
   exact TIS.run rs2 R1 eb fun α3 σ3 H3 E3 R3 rs3=>q α3 σ3 H3 (E2.trans E3 R3.h) R3 rs3
  ·rename_i n1 n2 n3
   cases fl with
   | next=>exact absurd e (n1 _ _)
   | cont=>exact absurd e (n2 _ _)
   | brk=>exact absurd e (n3 _ _)
   | ret u=>exact TIS.run rs2 R1 e fun α3 σ3 H3 E3 R3 rs3=>q α3 σ3 H3 (E2.trans E3 R3.h) R3 rs3
theorem QeJ{u:U}{hs h1:Hs}{n:Nat}{kvs:List (List U×U)}(h:QgO u hs h1=some (n,kvs)):u=.ref n/\(∃k0,hs[n]?=some (.dct k0))/\h1[n]?=some (.dct kvs):=by
 unfold QgO at h
 split at h
 case h_2=>cases h
 split at h
 case h_2=>cases h
 rename_i k0 e0
 split at h
 case h_2=>cases h
 rename_i k1 e1
 cases h
 exact⟨rfl,⟨k0,e0⟩,e1⟩
theorem QmL{st:Stmt}{t t1 t2:TS}(h1:PS X st t1)(h2:PS X st t2)(h:∀D σ H,t D σ H->t1 D σ H\/t2 D σ H):PS X st t:=fun pins s σ H D I z=>(h D σ H z).elim (h1 pins s σ H D I) (h2 pins s σ H D I)
theorem QeI{u:U}{hs h1:Hs}{n:Nat}{kvs:List (U×U)}(h:QgN u hs h1=some (n,kvs)):u=.ref n/\(∃k0,hs[n]?=some (.dic k0))/\h1[n]?=some (.dic kvs):=by
 unfold QgN at h
 split at h
 case h_2=>cases h
 split at h
 case h_2=>cases h
 rename_i k0 e0
 split at h
 case h_2=>cases h
 rename_i k1 e1
 cases h
 exact⟨rfl,⟨k0,e0⟩,e1⟩
theorem RU.scal{α α':List Addr}{u:U}{v:V}(h:Qbm u=true)(r:RU A α u v):RU A α' u v:=by
 cases u<;>first | exact r | cases h
theorem RU.back{α α':List Addr}{u:U}{v v0:V}(p:∀(n:Nat) a,α[n]?=some a->α'[n]?=some a)(h0:RU A α u v0)(h:RU A α' u v):RU A α u v:=by
 cases u with
 | ref n =>
  obtain⟨a,e,_⟩:=h0
  obtain⟨b,e2,r⟩:=h
  rw [p n a e]at e2
  cases e2
  exact⟨a,e,r⟩
 | _=>exact h
theorem Jx{β γ:Type}{P Q R:β->γ->Prop}(f:∀b c c',P b c->Q b c'->R b c'):∀{l:List β} {m m':List γ},Paired P l m->Paired Q l m'->Paired R l m'
 | _,_,_,.nil,.nil=>.nil
 | _,_,_,.cons a s,.cons b t=>.cons (f _ _ _ a b) (Jx f s t)
theorem RO.back{α α':List Addr}{H H':Hp}{a:Addr}{o:O}(p:∀(n:Nat) a,α[n]?=some a->α'[n]?=some a)(h0:RO T A α H a o)(h:RO T A α' H' a o):RO T A α H' a o:=by
 cases o with
 | lst xs=>obtain⟨_,_,r0⟩:=h0;obtain⟨vs,e,r⟩:=h;exact⟨vs,e,Jx (R:=RU A α) (fun _ _ _ x y=>RU.back p x y) r0 r⟩
 | tup xs=>obtain⟨_,_,r0⟩:=h0;obtain⟨vs,e,r⟩:=h;exact⟨vs,e,Jx (R:=RU A α) (fun _ _ _ x y=>RU.back p x y) r0 r⟩
 | ins c fs=>obtain⟨_,_,_,r0,_⟩:=h0;obtain⟨dx,fv,e,r,l⟩:=h;exact⟨dx,fv,e,Jx (fun _ _ _ x y=>⟨y.1,RU.back p x.2 y.2⟩) r0 r,l⟩
 | dic _=>obtain⟨_,_,r0⟩:=h0;obtain⟨kv,e,r⟩:=h;exact⟨kv,e,Jx (fun _ _ _ x y=>⟨y.1,RU.back p x.2 y.2⟩) r0 r⟩
 | dct _=>obtain⟨_,_,r0⟩:=h0;obtain⟨kv,e,r⟩:=h;exact⟨kv,e,Jx (fun _ _ _ x y=>⟨y.1,RU.back p x.2 y.2⟩) r0 r⟩
 | fzt _=>obtain⟨_,_,_,r0⟩:=h0;obtain⟨kv,ob,e,r⟩:=h;exact⟨kv,ob,e,Jx (fun _ _ _ x y=>⟨y.1,RU.back p x.2 y.2⟩) r0 r⟩
 | fzd _=>obtain⟨_,_,_,r0⟩:=h0;obtain⟨kv,ob,e,r⟩:=h;exact⟨kv,ob,e,Jx (fun _ _ _ x y=>⟨y.1,RU.back p x.2 y.2⟩) r0 r⟩
 | err _=>exact h
theorem Rep.drop{K:PySem.W.Frag}{α α1:List Addr}{hs h1:Hs}{H H1:Hp}(R:Rep T A K α hs H)(E1:Ext α α1 H H1)(R1:Rep T A K α1 h1 H1)(hp:h1.take hs.length=hs):Rep T A K α hs H1/\Ext α α H H1:=by
 have nd:∀(i j:Nat) a,α[i]?=some a->α[j]?=some a->i=j\/∃vs,H1 a=some (.tup vs):=fun i j a e1 e2=>by
  rcases R.h.nd i j a e1 e2 with q | ⟨vs,q⟩
  ·exact .inl q
  ·obtain⟨o',q1,q2⟩:=E1.tr a _ q
   exact .inr ⟨vs,q1.trans (congrArg some ((q2 vs).mp rfl))⟩
 refine⟨⟨⟨R.h.len,nd,fun n a o e1 e2=>?_⟩,R1.s⟩,⟨fun _ _ e=>e,fun n b e l=>by have:=getElem?_lt e;lia,E1.keep,E1.fz,E1.tr⟩⟩
 have l:n<hs.length:=(List.getElem?_eq_some_iff.mp e2).1
 refine RO.back E1.pre (R.h.ob n a o e1 e2) (R1.h.ob n a o (E1.pre n a e1) ?_)
 rw [<-hp,List.getElem?_take_of_lt l]at e2
 exact e2
theorem QjQ{e:Expr}{e':Iv.E}{d:Nat}(h:∀d,PE X e (TI T A X.K (ev T cf d e'))):PE X e (TI T A X.K (ev T cf d (.zap e'))):=by
 cases d with
 | zero=>exact YD Qit
 | succ d =>
  refine Q6 (h d) ?_
  rintro σ H Q ⟨α,ρ,hs,u,hs',rs,R,e,q⟩
  simp only [ev]at e
  split at e
  ·rename_i u1 h1 e1
   split at e
   ·rename_i c
    cases e
    refine TI.run rs R e1 fun α1 v H1 E1 R1 r1 rs1=>?_
    obtain⟨R2,E2⟩:=R.drop E1 R1 c.2
    exact q α v H1 E2 R2 (RU.scal c.1 r1)
   ·cases e
    exact TI.run rs R e1 fun α1 v H1 E1 R1 r1 rs1=>q α1 v H1 E1 R1 r1
  ·cases e
theorem QcQ{e:Expr}(h:QcR e=true):∃p,e=.Dict [] [] p:=by
 unfold QcR at h
 split at h
 ·exact⟨_,rfl⟩
 ·cases h
theorem QdP{b:List Stmt}{hs:List ExceptHandler}{o fn:List Stmt}{t:Tr}(h:QdQ C b hs o fn=some t):∃f pf a args q1 q2 x px n b0 body ph,b=[.Expr (.Call (.Name f pf) (a::args) [] q1) q2] /\
  hs=[.ExceptHandler (some (.Name x px)) n (b0::body) ph]/\o=[]/\fn=[]/\QdS C n=some t.j/\QdU C x=some t.c/\QbS C f=some t.f/\t.args=a::args/\t.body=b0::body:=by
 unfold QdQ at h
 split at h
 ·simp only [Option.bind_eq_some_iff]at h
  obtain⟨p,hp,c,hc,k,hk,h⟩:=h
  cases h
  exact⟨_,_,_,_,_,_,_,_,_,_,_,_,rfl,rfl,rfl,rfl,hp,hc,hk,rfl,rfl⟩
 ·cases h
theorem QdR {n : Str} {j : Option Nat} (h : QdS C (some n) = some j) : ∃ i, j = some i /\ Yc C n = true /\ n ≠ "__debug__" /\ idx n C.N = some i := by
 simp only [QdS]at h
 split at h
 ·rename_i c
  simp only [Bool.and_eq_true,decide_eq_true_eq]at c
  simp only [Option.map_eq_some_iff]at h
  obtain⟨i,hi,h⟩:=h
  exact⟨i,h.symm,c.1,c.2,hi⟩
 ·cases h
theorem QdT {x : Str} {c : Nat} (h : QdU C x = some c) : ZQ C x = true /\ x ≠ "__debug__" /\ C.gl.lookup x = some (.cls c) := by
 unfold QdU at h
 split at h
 ·rename_i q
  simp only [Bool.and_eq_true,decide_eq_true_eq]at q
  split at h
  ·rename_i z
   cases h
   exact⟨q.1,q.2,z⟩
  ·cases h
 ·cases h
theorem QaK {x : Str} {c : Nat} (h : QbS C x = some c) : ZQ C x = true /\ x ≠ "__debug__" /\ C.gl.lookup x = some (.fn c) := by
 unfold QbS at h
 split at h
 ·rename_i q
  simp only [Bool.and_eq_true,decide_eq_true_eq]at q
  split at h
  ·rename_i z
   cases h
   exact⟨q.1,q.2,z⟩
  ·cases h
 ·cases h
structure Bd(X:Cx):Prop where
 stk:X.stack=X.env::X.outer
 frm:X.env.frame=some X.env.locals
 ex:X.ex=[]
 cm:X.calm=true
theorem QcY:hdC (hdX C)=true:=by simp [hdC,hdX]
theorem QeR{st:Stmt}{p:Nat×Expr}(h:Qg2 C st=some p):∃y py pos,st=.Assign [.Name y py] p.2 pos/\Yc C y=true/\idx y C.N=some p.1:=by
 cases st with
 | Assign ts e pos =>
  simp only [Qg2]at h
  split at h
  ·rename_i y hy
   obtain⟨py,rfl⟩:=QaF hy
   split at h
   ·rename_i hl
    simp only [Option.map_eq_some_iff]at h
    obtain⟨i,hi,rfl⟩:=h
    exact⟨y,py,pos,rfl,hl,hi⟩
   ·cases h
  ·cases h
 | _=>cases h
theorem Qad(g:GX T A (hdX C) X)(fl:∀x,X.fn x=true\/X.env.scope.names.lookup x=some .local)(S:Snd T A (hdX C) X cf m):∀(sts:List Stmt) (d:Nat) (irs:List Iv.S),Qdl m C sts=some irs->PSs X sts (TIS T A X.K (exs T cf d irs))
 | _,0,_,_=>Z4 Qff
 | [],d+1,irs,h=>by
  cases h
  exact Qbi Qcd fun D σ H ⟨α,ρ,hs,fl,ρ',hs',rs,R,e,q⟩=>by cases e;exact q α σ H Ext.refl R rs
 | st::r,d+1,irs,h=>by
  simp only [Qdl,Option.bind_eq_some_iff]at h
  obtain⟨p,hp,e',he,r',hr,h⟩:=h
  cases h
  obtain⟨y,py,pos,rfl,hl,hi⟩:=QeR hp
  have ly:X.env.scope.names.lookup y=some .local:=by rw [g.sc];exact ZZ hl
  have P:∀d,PS X (.Assign [.Name y py] p.2 pos) (TIS T A X.K (ex T cf d (.set p.1 e'))):=fun d=>by
   refine QaT (fun d=>?_) (d:=d)
   refine Zt (YL (i:=p.1) g.nd (by rw [g.N];exact Zf hi) (.inl ly) (S.e d p.2 e' he) (JE he fun elt gens scope q z=>?_) (fl y)) ?_
   ·rw [z]at he
    cases m with
    | zero=>cases he
    | succ m =>
     have:=Qiw he
     rw [QcY]at this
     cases this
   ·rintro D σ H ⟨α,ρ,hs,fl,ρ',hs',rs,R,e,q⟩
    simp only [ex]at e
    obtain⟨u,h1,e1,e⟩:=Qc e
    cases e
    exact TI.run rs R e1 fun α1 x H1 E1 R1 r1 rs1=>q α1 _ H1 E1 R1 (rs1.set p.1 r1)
  refine Qbi (ZT (P d) (Qad g fl S r d r' hr)) ?_
  rintro D σ H ⟨α,ρ,hs,fl,ρ',hs',rs,R,e,q⟩
  simp only [exs]at e
  split at e
  ·rename_i ρ1 h1 e1
   exact TIS.run rs R e1 fun α1 σ1 H1 E1 R1 rs1=>TIS.run rs1 R1 e fun α2 σ2 H2 E2 R2 rs2=>q α2 σ2 H2 (E1.trans E2 R2.h) R2 rs2
  ·rename_i n1
   exfalso
   cases d with
   | zero=>cases e
   | succ d =>
    simp only [ex]at e n1
    cases z:ev T cf d e' ρ hs with
    | none=>rw [z]at e;cases e
    | some w=>rw [z]at n1;exact n1 _ _ rfl
theorem QeB{α:List Addr}{ρ:Rho}{σ:St}{j:Nat}(r:RS A α ρ σ):RS A α (ρ.set j none) (σ.set j none):=by
 refine⟨by simpa using r.len,fun k u e=>?_⟩
 have hk:k≠j:=fun z=>by
  subst z
  have l:k < ρ.length:=(List.getElem?_eq_some_iff.mp e).1 |> fun z=>by simpa using z
  rw [List.getElem?_set_self l]at e
  cases e
 rw [List.getElem?_set_ne (Ne.symm hk)]at e
 rw [List.getElem?_set_ne (Ne.symm hk)]
 exact r.val k u e
theorem QjR {b : List Stmt} {hs : List ExceptHandler} {o fn : List Stmt} {p : Pos} {t : Tr} {d : Nat} {es : List E} {sb : List Iv.S} (bX : Bd X) (g : GX T A C X) (fl : ∀ x, X.fn x = true \/ X.env.scope.names.lookup x = some .local) (F : Fc X T A cf k) (hr : Room k X.A) (S : Snd T A C X cf m) (hbl : C.bl.contains ("isinstance" : Str) = true) (ht : QdQ C b hs o fn = some t) (ha : compA m C t.args = some es) (hb : Qdl m C t.body = some sb) :
  PS X (.Try b hs o fn p) (TIS T A X.K (ex T cf (d+1) (.tryS t.j t.f es t.c sb))):=by
 obtain⟨f,pf,a,args,q1,q2,x,px,n,b0,body,ph,rfl,rfl,rfl,rfl,t1,t2,t3,t4,t5⟩:=QdP ht
 obtain⟨gx,dx,lx⟩:=QdT t2
 obtain⟨gf,df,lf⟩:=QaK t3
 rw [t4]at ha
 rw [t5]at hb
 have hns:=Qo ha
 have st:starEach (a::args) X.env=(false,eval a X.env)::starEach args X.env:=Qk (hns a (List.mem_cons_self ..))
 have sa:(backTo q1 (starEach args X.env)).any (·.1)=false:=Zn fun z hz=>hns z (List.mem_cons_of_mem _ hz)
 intro pins s σ H D I q
 obtain⟨α,ρ,hs0,fw,ρ',hs',rs,R,e,q⟩:=q
 simp only [Iv.ex]at e
 obtain⟨us,hh1,e1,e⟩:=Qc e
 refine wpAny_Try_except ?_
 have sw:swapsWith (.Call (.Name f pf) (a::args) [] q1) none q2.line X.env=pure false:=by rfl
 split at e
 ·rename_i u0 h2 ec
  cases e
  have P1:PS X (.Expr (.Call (.Name f pf) (a::args) [] q1) q2) _:=Y8 (Qe4 (d:=d) g F hr S gf df lf ha) sw
  have P2:=Qcc P1
  have r:=P2 pins s σ H D I (TI.run rs R (u:=u0) (h1:=_) (by simp only [ev,e1,Iv.bd];exact ec) fun α1 v H1 E1 R1 r1 rs1=>q α1 σ H1 E1 R1 rs1)
  rw [g.xe]at r ⊢
  refine wpAny_mono r (fun fl' s1 z=>?_) fun _ _ z=>z.elim
  cases fl' with
  | next=>exact wpAny_execs_nil z
  | ret v=>exact z
  | brk=>exact z
  | cont=>exact z
 ·rename_i ec
  split at e
  case h_2=>cases e
  rename_i c' h2 ex'
  rw [Option.ite_none_right_eq_some]at e
  obtain⟨⟨c1,c2,c3⟩,e⟩:=e
  split at e
  case h_2=>cases e
  rename_i ρ2 h3 eb
  cases e
  cases hF:T.fns[t.f]? with
  | none=>rw [hF]at c3;cases c3
  | some Fn =>
  rw [hF]at c3
  have c3:us.length=Fn.np:=of_decide_eq_true c3
  obtain⟨fd,G,bb,kp⟩:=F.xf t.f Fn hF
  refine wpAny_execs_cons (wpAny_Expr_any ?_ I.quiet sw)
  refine wpAny_Call_Name_kw (Zw I (Zc g gf) (g.gfn f t.f lf) ?_ (Q3 df))
  have pa0:=S.a d (a::args) es ha q1 pins s σ H (fun vs H1=>∃α1,Ext α α1 H H1/\Rep T A X.K α1 hh1 H1/\RUs A α1 us vs) I ⟨α,ρ,hs0,us,hh1,rs,R,e1,fun α' vs H' E' R' r'=>⟨α',E',R',r'⟩⟩
  rw [g.xe]at pa0
  refine PySem.W.callWith_K (h₀:=X.base) I.ok.mod.kin kp (wpAny_mono pa0 (fun us1 s1 ⟨vs,H1,I1,r,α1,E1,R1,ru⟩=>⟨I1.kIn,?_⟩) fun _ _ z=>z.elim) st sa
  have ll:us1.length=Fn.ps.length:=by
   obtain⟨fd',fn',_,_,lp,_⟩:=g.txt.fn t.f Fn hF
   rw [lp,<-c3,ru.length,r.length]
  have hsp:spX T A X.K T.xf t.f vs H1 (fun _ _=>False) (fun Cv o H'=>Cv=.ref (A.c c')/\EF T H' c' o/\∃α',Ext α1 α' H1 H'/\Rep T A X.K α' h2 H'):=
   ⟨α1,us,hh1,c',h2,ru,R1,ex',⟨Fn,hF,c3⟩,fun α' H' dd E' R' ef=>⟨rfl,ef,α',E',R'⟩⟩
  refine wpAny_call (codeAny_mono (G.run X.A X.stack s1 H1 ⟨us1,[]⟩ us1 vs _ _ hr I1.env0 (by have:=bb s1 us1 I1.kIn (by rw [List.append_nil];exact ll);rw [List.append_nil]at this;exact this) r hsp) fun rr s' hq=>?_)
  cases rr with
  | ok fl =>
   cases fl with
   | ret u =>
    obtain⟨_,_,_,_,_,_,_,z⟩:=hq
    exact z.elim
   | next=>exact False.elim hq
   | brk=>exact False.elim hq
   | cont=>exact False.elim hq
  | error ev =>
   obtain⟨e0,C0,H',B,a0,dd,rfl,os,bare,un,hok,flw,cv,hn,hs0',da,⟨hC,ef,α2,E2,R2⟩⟩:=hq
   cases hC
   have h00:X.s₀.heap.get? e0=none:=by
    cases q:X.s₀.heap.get? e0 with
    | none=>rfl
    | some ob =>
     obtain⟨o',ho⟩:=I1.base.there e0 ob q (by rw [bX.ex];simp)
     rw [hs0']at ho
     cases ho
   have M:Met X pins σ H1 H' s1 s' e0 (A.c c') dd B a0:=⟨I1,os,bare,un,hok,flw,cv,hn,hs0',h00,da⟩
   have gh:GX T A (hdX C) (X.hd (.ref e0)):=⟨g.CT,g.N,g.nd,g.sc,(fun z=>by rw [QcY]at z;cases z),g.kind,g.xe,g.gfn,g.gcl,g.gco,g.gtx,(fun z hz=>by
    refine g.blt z fun w=>hz ?_
    by_cases e:z=("isinstance":Str)
    ·rw [e,hbl]at w
     cases w
    ·have:(hdX C).bl=[("isinstance":Str)]:=rfl
     rw [this]
     simpa using e),g.txt,g.tab⟩
   have Sh:=(Qd1 (k:=k) m gh (⟨F.ok,F.some,F.df,F.xf⟩:Fc (X.hd (.ref e0)) T A cf k) (fun z=>by rw [QcY]at z;cases z) hr.units).s
   have rs2:=(rs.mono E1.pre).mono E2.pre
   have xeh:(X.hd (.ref e0)).xe=fun _ _=>False:=g.xe
   cases n with
   | none =>
    have tj:t.j=none:=(Option.some.inj t1).symm
    rw [tj]at eb q
    have PP:=Qad gh fl Sh (b0::body) d sb hb
    refine QgR (W:=fun σ8 H8=>∃α8,Ext α2 α8 H' H8/\Rep T A X.K α8 hs' H8/\RS A α8 ρ2 σ8) bX.stk bX.frm M (Zc g gx) (g.gcl x t.c lx) (g.txt.es c' t.c c2) (Q3 dx) (fun s7 J7=>?_) (fun σ8 H8 s'' ⟨α8,E8,R8,r8⟩ J=>?_)
    ·have r:=PP pins s7 σ H' ⟨fun σ8 H8=>∃α8,Ext α2 α8 H' H8/\Rep T A X.K α8 hs' H8/\RS A α8 ρ2 σ8,fun _ _=>False,fun _ _=>False,fun _ _=>False⟩ J7 ⟨α2,ρ,h2,.next,ρ2,hs',rs2,R2,eb,fun α' σ' H' E' R' r'=>⟨α',E',R',r'⟩⟩
     rw [xeh]at r
     refine wpAny_mono r (fun f8 s8 z=>?_) fun _ _ z=>z
     cases f8 with
     | next=>exact⟨rfl,z⟩
     | brk=>obtain⟨_,_,_,z⟩:=z;exact z.elim
     | cont=>obtain⟨_,_,_,z⟩:=z;exact z.elim
     | ret u=>obtain⟨_,_,_,_,_,z⟩:=z;exact z.elim
    ·exact⟨_,_,J,q _ _ _ ((E1.trans E2 R2.h).trans E8 R8.h) R8 r8⟩
   | some n =>
    obtain⟨j,hj,ln,nd,hi⟩:=QdR t1
    rw [hj]at eb q
    have PP:=Qad gh fl Sh (b0::body) d sb hb
    obtain⟨R3,E3⟩:=R2.new (p:=e0) (o:=.err c') (ho:=Qc7 e0 (A.c c') dd) hn ⟨dd,Qe,c1,ef.fz fun b o fs e=>by rw [Qb (fun z=>by rw [z,hn]at e;cases e)];exact e⟩
    have at3:(α2++[e0])[h2.length]?=some e0:=by rw [<-R2.h.len];exact QH
    have rs4:=(rs2.mono E3.pre).set j (u:=.ref h2.length) (v:=.ref e0) ⟨e0,at3,rfl⟩
    refine QgS (W:=fun σ8 H8=>∃α8,Ext (α2++[e0]) α8 (upd H' e0 (Qc7 e0 (A.c c') dd)) H8/\Rep T A X.K α8 hs' H8/\RS A α8 ρ2 σ8) bX.stk bX.frm g.nd M (Zc g gx) (g.gcl x t.c lx) (g.txt.es c' t.c c2) (Q3 dx) (by rw [g.N];exact Zf hi) (by rw [g.sc];exact ZZ ln) (fun s7 J7=>?_) (fun σ8 H8 s'' ⟨α8,E8,R8,r8⟩ J=>?_)
    ·have r:=PP pins s7 _ _ ⟨fun σ8 H8=>∃α8,Ext (α2++[e0]) α8 (upd H' e0 (Qc7 e0 (A.c c') dd)) H8/\Rep T A X.K α8 hs' H8/\RS A α8 ρ2 σ8,fun _ _=>False,fun _ _=>False,fun _ _=>False⟩ J7 ⟨α2++[e0],ρ.set j (some (.ref h2.length)),h2++[O.err c'],.next,ρ2,hs',rs4,R3,eb,fun α' σ' H' E' R' r'=>⟨α',E',R',r'⟩⟩
     rw [xeh]at r
     refine wpAny_mono r (fun f8 s8 z=>?_) fun _ _ z=>z
     cases f8 with
     | next=>exact⟨rfl,z⟩
     | brk=>obtain⟨_,_,_,z⟩:=z;exact z.elim
     | cont=>obtain⟨_,_,_,z⟩:=z;exact z.elim
     | ret u=>obtain⟨_,_,_,_,_,z⟩:=z;exact z.elim
    ·exact⟨_,_,J,q _ _ _ (((E1.trans E2 R2.h).trans E3 R3.h).trans E8 R8.h) R8 (QeB r8)⟩
theorem QhB(bX:Bd X)(F:Fc X T A cf k)(hr:Room k X.A)(hu:X.A.units+1<cLine)(g:GX T A C X)(fl:∀x,X.fn x=true\/X.env.scope.names.lookup x=some .local)(S2:Snd2 T A C X cf m)(SS:SndS T A C X cf m)(d:Nat)(st:Stmt)(ir:Iv.S)(h:Q9 (m+1) C st=some ir):PS X st (TIS T A X.K (ex T cf d ir)):=by
 have S:=S2.s
 refine QaT fun d=>?_
 cases st with
 | Pass p=>cases h;exact Zt Qf0 fun D σ H ⟨α,ρ,hs,fl,ρ',hs',rs,R,e,q⟩=>by cases e;exact q α σ H Ext.refl R rs
 | Break p=>cases h;exact Zt Qec fun D σ H ⟨α,ρ,hs,fl,ρ',hs',rs,R,e,q⟩=>by cases e;exact q α σ H Ext.refl R rs
 | Continue p=>cases h;exact Zt Qaf fun D σ H ⟨α,ρ,hs,fl,ρ',hs',rs,R,e,q⟩=>by cases e;exact q α σ H Ext.refl R rs
 | Expr e p =>
  unfold Q9 at h;try dsimp only at h
  split at h
  ·rename_i hd
   obtain⟨x,j,q,rfl⟩:=QeE hd
   cases h
   exact Zt Qh1 fun D σ H ⟨α,ρ,hs,fl,ρ',hs',rs,R,e,q⟩=>by cases e;exact q α σ H Ext.refl R rs
  ·cases h
  ·rename_i hn
   simp only [Option.map_eq_some_iff]at h
   obtain⟨e',he,rfl⟩:=h
   refine Zt (Y8 (S.e d e e' he) (JE he fun elt gens scope q z=>by subst z;cases hn)) ?_
   rintro D σ H ⟨α,ρ,hs,fl,ρ',hs',rs,R,e,q⟩
   simp only [ex]at e
   obtain⟨u,h1,e1,e⟩:=Qc e
   cases e
   exact TI.run rs R e1 fun α1 x H1 E1 R1 r1 rs1=>q α1 σ H1 E1 R1 rs1
 | Return v p =>
  cases v with
  | none =>
   cases h
   exact Zt QfZ fun D σ H ⟨α,ρ,hs,fl,ρ',hs',rs,R,e,q⟩=>by cases e;exact q α σ H Ext.refl R rs .non rfl
  | some e =>
   unfold Q9 at h;simp only [Option.map_eq_some_iff]at h
   obtain⟨e',he,rfl⟩:=h
   refine Zt (Qe7 (S.e d e e' he)) ?_
   rintro D σ H ⟨α,ρ,hs,fl,ρ',hs',rs,R,e,q⟩
   simp only [ex]at e
   obtain⟨u,h1,e1,e⟩:=Qc e
   cases e
   exact TI.run rs R e1 fun α1 x H1 E1 R1 r1 rs1=>q α1 σ H1 E1 R1 rs1 x r1
 | Raise x c p =>
  unfold Q9 at h;try dsimp only at h
  split at h
  ·simp only [Option.bind_eq_some_iff]at h
   obtain⟨es,_,h⟩:=h
   cases h
   exact ZM fun D σ H ⟨_,_,_,_,_,_,_,_,e,_⟩=>by simp [ex]at e
  ·cases h
   exact ZM fun D σ H ⟨_,_,_,_,_,_,_,_,e,_⟩=>by simp [ex]at e
 | Try b hs o fn p =>
  unfold Q9 at h;try dsimp only at h
  split at h
  case isFalse=>cases h
  rename_i hbl
  simp only [Option.bind_eq_some_iff]at h
  obtain⟨t,ht,es,hes,sb,hsb,h⟩:=h
  cases h
  exact QjR bX g fl F hr S hbl ht hes hsb
 | AugAssign t o e p=>first | exact nomatch (show(none:Option Iv.S)=some _ from h) | simp [Q9]at h
 | If t a b p =>
  unfold Q9 at h;simp only [Option.bind_eq_some_iff]at h
  obtain⟨t',ht,a',ha,b',hb,h⟩:=h
  cases h
  refine Zt (Qh0 (S.t d t t' ht).1 (SS.ss d a a' ha) (SS.ss d b b' hb)) ?_
  rintro D σ H ⟨α,ρ,hs,fl,ρ',hs',rs,R,e,q⟩
  simp only [ex]at e
  split at e
  ·rename_i h1 e1
   refine TIT.run rs R e1 fun α1 H1 E1 R1 rs1=>?_
   rw [if_pos rfl]
   exact TIS.run rs1 R1 e fun α2 σ2 H2 E2 R2 rs2=>q α2 σ2 H2 (E1.trans E2 R2.h) R2 rs2
  ·rename_i h1 e1
   refine TIT.run rs R e1 fun α1 H1 E1 R1 rs1=>?_
   rw [if_neg Bool.false_ne_true]
   exact TIS.run rs1 R1 e fun α2 σ2 H2 E2 R2 rs2=>q α2 σ2 H2 (E1.trans E2 R2.h) R2 rs2
  ·cases e
 | While t a b p=>first | exact nomatch (show(none:Option Iv.S)=some _ from h) | simp [Q9]at h
 | For tg it a b p =>
  cases b with
  | cons _ _=>first | exact nomatch (show(none:Option Iv.S)=some _ from h) | simp [Q9]at h
  | nil =>
   unfold Q9 at h;simp only [Option.bind_eq_some_iff]at h
   obtain⟨tg',ht,it',hi,h⟩:=h
   split at h
   ·rename_i i0 hk
    simp only [Option.bind_eq_some_iff]at h
    obtain⟨e',he,a',ha,h⟩:=h
    cases h
    have et:tg'=.name i0:=by
     unfold Qlq at hk
     split at hk
     case h_2=>cases hk
     split at hk
     case h_2=>cases hk
     split at hk
     case isFalse=>cases hk
     cases hk
     rfl
    subst et
    refine QmL (QfY (QaS (by rw [g.xe];exact PassesOwn.never) bX.cm (Qga (S.e d it e' he)) (Qjk bX.cm g fl ht) (SS.ss d a a' ha) (YO hi))) (Qea (QaS (by rw [g.xe];exact PassesOwn.never) bX.cm (Qef (S.e d it e' he)) (Qjk bX.cm g fl ht) (SS.ss d a a' ha) (YO hi))) ?_
    rintro D σ H ⟨α,ρ,hs,fl,ρ',hs',rs,R,e,q⟩
    simp only [ex]at e
    obtain⟨u,h1,e1,e⟩:=Qc e
    split at e
    ·rename_i n kvs ed
     obtain⟨rfl,⟨k0,hk0⟩,hk1⟩:=QeI ed
     unfold Qhn at e
     split at e
     case h_2=>cases e
     rename_i fl' ρ2 h2 ef
     split at e
     case h_2=>cases e
     rename_i kvs' hk2
     cases e
     obtain⟨a0,ha0,kv0,hH0,rd0⟩:=R.h.adr hk0
     refine .inl ⟨a0,kv0,hH0,TI.run rs R e1 fun α1 x H1 E1 R1 r1 rs1=>?_⟩
     obtain⟨a1,ha1,rfl⟩:=r1
     have ea:a1=a0:=by
      have:=E1.pre n a0 ha0
      rw [ha1]at this
      exact Option.some.inj this
     subst ea
     obtain⟨kv1,hH1,rd1⟩:=R1.h.ob n a1 _ ha1 hk1
     refine⟨a1,kv1,rfl,hH1,fun ob=>?_⟩
     have R2:Rep T A X.K α1 (h1.set n (.fzd kvs)) (upd H1 a1 (.frz ob (.dK kv1))):=R1.put0 ha1 ⟨kv1,ob,Qe,rd1⟩
     have ne:∀b o,H1 b=some o->b∉α1->b≠a1:=fun b o _ hb z=>hb (z▸List.mem_of_getElem? ha1)
     refine Qc1 rs1 R2 Qe rd1 ef fun α3 σ3 H3 E3 R3 rs3=>?_
     have z3:=E3.fz a1 ob (.dK kv1) Qe
     have ha3:=E3.pre n a1 ha1
     obtain⟨kv3,ob3,hH3,rd3⟩:=R3.h.ob n a1 _ ha3 hk2
     rw [z3]at hH3
     cases hH3
     have R4:Rep T A X.K α3 (h2.set n (.dic kvs')) (upd H3 a1 (.dK kv1)):=R3.put0 ha3 ⟨kv1,Qe,rd3⟩
     have E4:Ext α1 α3 H1 (upd H3 a1 (.dK kv1)):=by
      refine⟨E3.pre,fun k b e l=>?_,fun b o e hb=>?_,fun b o kv e=>?_,fun b o e=>?_⟩
      ·have hn:=E3.new k b e l
       have hb:b≠a1:=fun z=>by
        rw [z,Qe]at hn
        rcases hn with q | ⟨_,q⟩<;>cases q
       rw [Qb hb]at hn
       exact hn
      ·have hb':=ne b o e hb
       rw [Qb hb']
       exact E3.keep b o (by rw [Qb hb'];exact e) hb
      ·have hb':b≠a1:=fun z=>by rw [z,hH1]at e;cases e
       rw [Qb hb']
       exact E3.fz b o kv (by rw [Qb hb'];exact e)
      ·by_cases hb':b=a1
       ·subst hb'
        rw [hH1]at e
        cases e
        exact⟨_,Qe,fun _=>Iff.rfl⟩
       ·obtain⟨o',q1,q2⟩:=E3.tr b o (by rw [Qb hb'];exact e)
        exact⟨o',by rw [Qb hb'];exact q1,q2⟩
     have fin:=q α3 σ3 _ (E1.trans E4 R4.h) R4 rs3
     cases fl with
     | next=>exact⟨ob,kv1,z3,fin⟩
     | brk=>exact⟨ob,kv1,z3,fin⟩
     | cont=>exact⟨ob,kv1,z3,fin⟩
     | ret u=>exact fun v rv=>⟨ob,kv1,z3,fin v rv⟩
    ·split at e
     case h_2=>cases e
     rename_i n kvs ed
     obtain⟨rfl,⟨k0,hk0⟩,hk1⟩:=QeJ ed
     unfold thawT at e
     split at e
     case h_2=>cases e
     rename_i fl' ρ2 h2 ef
     split at e
     case h_2=>cases e
     rename_i kvs' hk2
     cases e
     obtain⟨a0,ha0,kv0,hH0,rd0⟩:=R.h.adr hk0
     refine .inr ⟨a0,kv0,hH0,TI.run rs R e1 fun α1 x H1 E1 R1 r1 rs1=>?_⟩
     obtain⟨a1,ha1,rfl⟩:=r1
     have ea:a1=a0:=by
      have:=E1.pre n a0 ha0
      rw [ha1]at this
      exact Option.some.inj this
     subst ea
     obtain⟨kv1,hH1,rd1⟩:=R1.h.ob n a1 _ ha1 hk1
     refine⟨a1,kv1,rfl,hH1,fun ob=>?_⟩
     have R2:Rep T A X.K α1 (h1.set n (.fzt kvs)) (upd H1 a1 (.frz ob (.dT kv1))):=R1.put0 ha1 ⟨kv1,ob,Qe,rd1⟩
     have ne:∀b o,H1 b=some o->b∉α1->b≠a1:=fun b o _ hb z=>hb (z▸List.mem_of_getElem? ha1)
     refine Qc0 rs1 R2 Qe rd1 ef fun α3 σ3 H3 E3 R3 rs3=>?_
     have z3:=E3.fz a1 ob (.dT kv1) Qe
     have ha3:=E3.pre n a1 ha1
     obtain⟨kv3,ob3,hH3,rd3⟩:=R3.h.ob n a1 _ ha3 hk2
     rw [z3]at hH3
     cases hH3
     have R4:Rep T A X.K α3 (h2.set n (.dct kvs')) (upd H3 a1 (.dT kv1)):=R3.put0 ha3 ⟨kv1,Qe,rd3⟩
     have E4:Ext α1 α3 H1 (upd H3 a1 (.dT kv1)):=by
      refine⟨E3.pre,fun k b e l=>?_,fun b o e hb=>?_,fun b o kv e=>?_,fun b o e=>?_⟩
      ·have hn:=E3.new k b e l
       have hb:b≠a1:=fun z=>by
        rw [z,Qe]at hn
        rcases hn with q | ⟨_,q⟩<;>cases q
       rw [Qb hb]at hn
       exact hn
      ·have hb':=ne b o e hb
       rw [Qb hb']
       exact E3.keep b o (by rw [Qb hb'];exact e) hb
      ·have hb':b≠a1:=fun z=>by rw [z,hH1]at e;cases e
       rw [Qb hb']
       exact E3.fz b o kv (by rw [Qb hb'];exact e)
      ·by_cases hb':b=a1
       ·subst hb'
        rw [hH1]at e
        cases e
        exact⟨_,Qe,fun _=>Iff.rfl⟩
       ·obtain⟨o',q1,q2⟩:=E3.tr b o (by rw [Qb hb'];exact e)
        exact⟨o',by rw [Qb hb'];exact q1,q2⟩
     have fin:=q α3 σ3 _ (E1.trans E4 R4.h) R4 rs3
     cases fl with
     | next=>exact⟨ob,kv1,z3,fin⟩
     | brk=>exact⟨ob,kv1,z3,fin⟩
     | cont=>exact⟨ob,kv1,z3,fin⟩
     | ret u=>exact fun v rv=>⟨ob,kv1,z3,fin v rv⟩
   split at h
   case isFalse=>cases h
   rename_i ok
   simp only [Option.bind_eq_some_iff]at h
   obtain⟨a',ha,h⟩:=h
   cases h
   refine Zt (QaS (by rw [g.xe];exact PassesOwn.never) bX.cm (S2.w d it _ tg hi (Qe0 ht ok)) (Qjk bX.cm g fl ht) (SS.ss d a a' ha) (YO hi)) ?_
   rintro D σ H ⟨α,ρ,hs,fl,ρ',hs',rs,R,e,q⟩
   simp only [ex]at e
   obtain⟨w,h1,e1,e⟩:=Qc e
   refine⟨α,ρ,hs,w,h1,rs,R,e1,fun α1 J H1 E1 R1 W1=>?_⟩
   exact QeD rfl g.txt (rs.mono E1.pre) R1 W1 e fun α2 σ2 H2 E2 R2 rs2=>q α2 σ2 H2 (E1.trans E2 R2.h) R2 rs2
 | Assign ts e p =>
  unfold Q9 at h;try dsimp only at h
  split at h
  ·rename_i x ht
   obtain⟨px,rfl⟩:=QaF ht
   split at h
   case isFalse=>cases h
   rename_i hl
   simp only [Option.bind_eq_some_iff]at h
   obtain⟨i,hi,h⟩:=h
   split at h
   ·rename_i ce
    cases h
    rw [Bool.and_eq_true]at ce
    obtain⟨pd,rfl⟩:=QcQ ce.1
    refine Zt (YL (i:=i) g.nd (by rw [g.N];exact Zf hi) (YS g hl) Qeh (JE (m:=1) (C:=C) (ir:=.dnew) (by rfl) (by intro _ _ _ _ z;cases z)) (fl x)) ?_
    rintro D σ H ⟨α,ρ,hs,fl,ρ',hs',rs,R,e,q⟩
    simp only [ex]at e
    obtain⟨u,h1,e1,e⟩:=Qc e
    cases e
    cases d with
    | zero=>cases e1
    | succ d =>
     simp only [ev]at e1
     cases e1
     intro b hb
     obtain⟨R',E'⟩:=R.new (o:=.dct []) (ho:=.dT []) hb ⟨[],Qe,.nil⟩
     exact q _ _ _ E' R' ((rs.mono E'.pre).set i ⟨b,by rw [<-R.h.len];exact QH,rfl⟩)
   simp only [Option.bind_eq_some_iff]at h
   obtain⟨e',he,h⟩:=h
   cases h
   have fin:∀e' D σ H,TIS T A X.K (ex T cf (d+1) (.set i e')) D σ H->TI T A X.K (ev T cf d e') σ H fun v H1=>D.nx (σ.set i (some v)) H1:=by
    intro e'
    rintro D σ H ⟨α,ρ,hs,fl,ρ',hs',rs,R,e,q⟩
    simp only [ex]at e
    obtain⟨u,h1,e1,e⟩:=Qc e
    cases e
    exact TI.run rs R e1 fun α1 x H1 E1 R1 r1 rs1=>q α1 _ H1 E1 R1 (rs1.set i r1)
   unfold Qhd
   by_cases hz:(C.T.zps.contains x&&Qir e)=true
   ·rw [if_pos hz]
    rw [Bool.and_eq_true]at hz
    exact Zt (YL (i:=i) g.nd (by rw [g.N];exact Zf hi) (YS g hl) (QjQ fun d=>S.e d e e' he) (JE he fun elt gens scope q z=>by subst z;cases hz.2) (fl x)) (fin _)
   rw [if_neg hz]
   by_cases hc:∃elt gens scope q,e=.ListComp elt gens scope q
   ·obtain⟨elt,gens,scope,pc,rfl⟩:=hc
    obtain⟨tg,iter,tl,xs,n,wi,gg,tt,te,rfl,ok,hi',hn',hg',ht',he',hf,imp⟩:=S2.c d elt gens scope pc e' he
    exact fun pins s σ H D I hq=>Qf2 bX.cm g.nd ok hi' hn' hg' ht' he' hf (by rw [g.N];exact Zf hi) (YS g hl) (fl x) pins s σ H D I (imp σ H _ I.len (fin _ D σ H hq))
   ·exact Zt (YL (i:=i) g.nd (by rw [g.N];exact Zf hi) (YS g hl) (S.e d e e' he) (JE he fun elt gens scope q z=>hc ⟨elt,gens,scope,q,z⟩) (fl x)) (fin _)
  ·cases h
  ·cases h
  ·rename_i x px y py ht
   obtain⟨kt,pt,rfl⟩:=QeS ht
   split at h
   case isFalse=>cases h
   rename_i c
   simp only [Bool.and_eq_true,decide_eq_true_eq]at c
   obtain⟨⟨lx,ly⟩,nxy⟩:=c
   simp only [Option.bind_eq_some_iff]at h
   obtain⟨i,hi,j,hj,h⟩:=h
   have kx:X.env.scope.names.lookup x=some .local:=by rw [g.sc];exact ZZ lx
   have ky:X.env.scope.names.lookup y=some .local:=by rw [g.sc];exact ZZ ly
   have ix:X.N[i]?=some x:=by rw [g.N];exact Zf hi
   have iy:X.N[j]?=some y:=by rw [g.N];exact Zf hj
   split at h
   ·cases h
   ·split at h
    case isFalse=>cases h
    rename_i nt
    simp only [Option.map_eq_some_iff]at h
    obtain⟨e',he,rfl⟩:=h
    refine Zt (Qh2 (S.e d e e' he) (Qcl bX.cm (ZN (Yu g.nd ix (.inl kx) (.inr kx)) (ZN (Yu g.nd iy (.inl ky) (.inr ky)) Qah))) (Qgr he) (JD nt) rfl) ?_
    rintro D σ H ⟨α,ρ,hs,fl,ρ',hs',rs,R,e,q⟩
    simp only [ex]at e
    obtain⟨u,h1,e1,e⟩:=Qc e
    simp only [Option.map_eq_some_iff]at e
    obtain⟨ρ2,e2,e⟩:=e
    cases e
    refine TI.run rs R e1 fun α1 v H1 E1 R1 r1 rs1=>?_
    exact Z6 (t:=.pair i j) R1 rs1 r1 e2 fun σ2 r2=>q α1 σ2 H1 E1 R1 r2
  ·cases h
 | _=>exact nomatch (show(none:Option Iv.S)=some _ from h)
theorem Qfw{st:Stmt}{s0 s':S}(hs:Qjs m C st s0=some s')(h:∀d,PS X st (TIS T A X.K (ex T cf d s0)))(d:Nat):PS X st (TIS T A X.K (ex T cf d s')):=by
 unfold Qjs at hs
 split at hs
 ·rename_i t ht
  simp only [Option.map_eq_some_iff]at hs
  obtain⟨es,_,rfl⟩:=hs
  cases d with
  | zero=>exact ZM fun D σ H ⟨_,_,_,_,_,_,_,_,e,_⟩=>by cases e
  | succ d =>
   have z:ex T cf (d+1) (.cal s0 t.1 es)=ex T cf d s0:=by funext ρ hs;simp only [ex]
   rw [z]
   exact h d
 ·cases hs
  exact h d
theorem QfP(SS:SndS T A C X cf m)(d:Nat)(sts:List Stmt)(irs:List S)(h:compSs (m+1) C sts=some irs):PSs X sts (TIS T A X.K (exs T cf d irs)):=by
 cases d with
 | zero=>exact Z4 Qff
 | succ d =>
  cases sts with
  | nil =>
   cases h
   exact Qbi Qcd fun D σ H ⟨α,ρ,hs,fl,ρ',hs',rs,R,e,q⟩=>by cases e;exact q α σ H Ext.refl R rs
  | cons st r =>
   simp only [compSs,Option.bind_eq_some_iff]at h
   obtain⟨s0,hs0,s',hs,r',hr,h⟩:=h
   cases h
   refine Qbi (ZT (Qfw hs (fun d=>SS.s d st s0 hs0) d) (SS.ss d r r' hr)) ?_
   rintro D σ H ⟨α,ρ,hs,fl,ρ',hs',rs,R,e,q⟩
   simp only [exs]at e
   split at e
   ·rename_i ρ1 h1 e1
    exact TIS.run rs R e1 fun α1 σ1 H1 E1 R1 rs1=>TIS.run rs1 R1 e fun α2 σ2 H2 E2 R2 rs2=>q α2 σ2 H2 (E1.trans E2 R2.h) R2 rs2
   ·rename_i n1
    refine TIS.run rs R e fun α1 σ1 H1 E1 R1 rs1=>?_
    cases fl with
    | next=>exact absurd e (n1 _ _)
    | cont=>exact q α1 σ1 H1 E1 R1 rs1
    | brk=>exact q α1 σ1 H1 E1 R1 rs1
    | ret u=>exact q α1 σ1 H1 E1 R1 rs1
theorem QjO(bX:Bd X)(g:GX T A C X)(fl:∀x,X.fn x=true\/X.env.scope.names.lookup x=some .local)(F:Fc X T A cf k)(hr:Room (k+1) X.A):∀m,SndS T A C X cf m
 | 0=>⟨fun d st ir h=>by first | exact nomatch (show(none:Option Iv.S)=some _ from h) | simp [Q9]at h,fun d sts irs h=>by exact nomatch (show(none:Option (List Iv.S))=some _ from h)⟩
 | m+1=>by
  have SS:=QjO bX g fl F hr m
  exact⟨QhB bX F (hr.mono (Nat.le_succ k)) (QkC hr) g fl (Qd1 m g F (fun _=>hr) hr.units) SS,QfP SS⟩
end
end Iv
namespace Iv
open PySem PySem.Spec PyProof.Rows L2
structure Top(T:Tbl)(A:Adr)(K:PySem.W.Frag)(mg:Str->Option Value)(gl:List (Str×G))(bl:List Str):Prop where
 txt:Txt T A K mg
 gfn:∀x i,gl.lookup x=some (.fn i)->mg x=some (.ref (A.f i))
 gcl:∀x i,gl.lookup x=some (.cls i)->mg x=some (.ref (A.c i))
 gco:∀x k,gl.lookup x=some (.con k)->mg x=some (.ref (A.k k))
 gtx:∀x t,gl.lookup x=some (.txt t)->∃k,mg x=some (.str ⟨t.toArray⟩ k)
 blt:∀x,¬bl.contains x=false->mg x=none
noncomputable def YE(T:Tbl)(gl:List (Str×G))(bl:List Str):Prop:=∀(i:Nat) (F:Fn),T.fns[i]?=some F->∃m,compSs m ⟨T,F.N,(Qa F.st).names,gl,bl,F.lc⟩ (Qg F.st)=some F.body
section
variable {P:Program}{w:World}{K:PySem.W.Frag}{mg:Str->Option Value}{base:Heap}{T:Tbl}{A:Adr}{gl:List (Str×G)}{bl:List Str}
theorem Y6{α:List Addr}{us:List U}{vs:List V}{N:List Str}{n:Nat}(r:RUs A α us vs)(hn:N.length=n):RS A α (QhP us n) (L2.start N vs):=by
 unfold QhP L2.start
 have l:=r.length
 refine⟨by simp [l,hn],fun i u e=>?_⟩
 by_cases hi:i<us.length
 ·rw [List.getElem?_append_left (by simpa using hi),List.getElem?_map]at e
  rw [List.getElem?_append_left (by simpa [<-l]using hi),List.getElem?_map]
  cases q:us[i]? with
  | none=>rw [q]at e;cases e
  | some x =>
   rw [q]at e
   cases e
   obtain⟨v,h1,h2⟩:=r.get q
   exact⟨v,by rw [h1];rfl,h2⟩
 ·rw [List.getElem?_append_right (by simpa using Nat.le_of_not_lt hi),List.getElem?_replicate]at e
  split at e<;>cases e
theorem Y1{n:Nat}:∀f us hs r,Qd T n f us hs=some r->∃F,T.fns[f]?=some F/\us.length=F.np:=by
 intro f us hs r h
 cases n with
 | zero=>cases h
 | succ n =>
  simp only [Qd]at h
  split at h
  ·cases h
  ·rename_i F e
   split at h
   ·rename_i l
    exact⟨F,e,l⟩
   ·cases h
noncomputable def XOk(P:Program)(w:World)(K:PySem.W.Frag)(mg:Str->Option Value)(base:Heap)(T:Tbl)(A:Adr)(r:Nat):Prop:=∀f F,T.fns[f]?=some F->∃fd,FnOk P w K mg base (CXw P w) r (A.f f) fd F.ps (spX T A K T.xf f)/\Binds K fd F.ps []/\PySem.W.keepIn K (.ref (A.f f))=true
theorem Ql8(tp:Top T A K mg gl bl)(h:T.xf=fun _ _ _=>none):XOk P w K mg base T A 0:=fun f F hF=>by
 obtain⟨fd,fn,b,_⟩:=tp.txt.fn f F hF
 have no:∀vs H Q E,¬spX T A K T.xf f vs H Q E:=fun vs H Q E z=>by
  obtain⟨α,us,hs,u,hs',_,_,e,_⟩:=z
  rw [h]at e
  cases e
 exact⟨fd,⟨fun vs H Q E h=>absurd h (no vs H Q E),fun A outer s H args us vs Q E _ _ _ _ h=>absurd h (no vs H Q E)⟩,b,fn.kp⟩
theorem JO{rm:Nat}(tp:Top T A K mg gl bl)(tab:Jo P w T A K)(hb:YE T gl bl)(hX:XOk P w K mg base T A rm):∀n f F,T.fns[f]?=some F->∃fd,FnOk P w K mg base CX0 (rm+2*n) (A.f f) fd F.ps (spC T A K (Qd T n) f)/\Binds K fd F.ps []/\PySem.W.keepIn K (.ref (A.f f))=true/\FunD K F.name F.qual F.st (A.f f) fd
 | 0,f,F,hF=>by
  obtain⟨fd,fn,b,_⟩:=tp.txt.fn f F hF
  have no:∀vs H Q E,¬spC T A K (Qd T 0) f vs H Q E:=fun vs H Q E h=>by
   obtain⟨α,us,hs,u,hs',_,_,e,_⟩:=h
   cases e
  exact⟨fd,⟨fun vs H Q E h=>absurd h (no vs H Q E),fun A outer s H args us vs Q E _ _ _ _ h=>absurd h (no vs H Q E)⟩,b,fn.kp,fn⟩
 | n+1,f,F,hF=>by
  obtain⟨fd,fn,b,sc,lp,lN⟩:=tp.txt.fn f F hF
  obtain⟨m,hm⟩:=hb f F hF
  refine⟨fd,?_,b,fn.kp,fn⟩
  refine fn.ok (k:=rm+2*n+1) sc (fun vs H Q E h=>?_) (fun cdv A' outer s H vs Q E hr h=>?_)
  ·obtain⟨α,us,hs,u,hs',r,_,_,⟨F',h1,h2⟩,_⟩:=h
   rw [hF]at h1
   cases h1
   rw [<-r.length,h2,lp]
  ·obtain⟨α,us,hs,u,hs',r,R,e,_,q⟩:=h
   refine⟨TIS T A K (exs T (Qd T n) dd F.body),?_,?_⟩
   ·have gx:GX T A ⟨T,F.N,(Qa F.st).names,gl,bl,F.lc⟩ (QbK CX0 P w K mg base F.N F.qual (Qa F.st) (A.f f) cdv A' outer s H E).nox :=
     ⟨rfl,rfl,sc.nd,rfl,fun _=>rfl,sc.kind,rfl,tp.gfn,tp.gcl,tp.gco,tp.gtx,tp.blt,tp.txt,tab⟩
    have fc:Fc (QbK CX0 P w K mg base F.N F.qual (Qa F.st) (A.f f) cdv A' outer s H E).nox T A (Qd T n) (rm+2*n):=⟨fun f' F' h'=>by
     obtain⟨fd',G,b',kp,_⟩:=JO tp tab hb hX n f' F' h'
     exact⟨fd',G,b',kp⟩,Y1,fun i D F' hD h'=>by
     obtain⟨fd',G,_,kp,fn'⟩:=JO tp tab hb hX n i F' h'
     obtain⟨fd2,x,q,st,fn2,dk,hp⟩:=tp.txt.df i D hD
     have e:=FunD.same fn2 fn'
     subst e
     rw [(hp F' h').1]at G
     exact⟨fd2,G,kp,dk⟩,fun f' F' h'=>by
     obtain⟨fd',G,b',kp⟩:=hX f' F' h'
     exact⟨fd',G.mono (Nat.le_add_right _ _),b',kp⟩⟩
    exact(QjO ⟨rfl,rfl,rfl,rfl⟩ gx (fun _=>.inl rfl) fc hr m).ss dd (Qg F.st) F.body hm
   ·simp only [Qd,hF]at e
    split at e
    case isFalse=>cases e
    unfold fin at e
    split at e
    ·rename_i u' ρ' h1 e1
     cases e
     exact TIS.run (Y6 r lN) R e1 fun α1 σ1 H1 E1 R1 rs1 v rv=>q α1 v H1 E1 R1 rv
    ·rename_i ρ' h1 e1
     cases e
     exact TIS.run (Y6 r lN) R e1 fun α1 σ1 H1 E1 R1 rs1=>q α1 .non H1 E1 R1 rfl
    ·cases e
end
end Iv
namespace Iv
open PySem PySem.Spec PyProof.Rows L2
inductive AllI{α:Type}(P:Nat->α->Prop):Nat->List α->Prop where
 | nil {n:Nat}:AllI P n []
 | cons {n:Nat} {a:α} {r:List α}:P n a->AllI P (n+1) r->AllI P n (a::r)
theorem AllI.get{α:Type}{P:Nat->α->Prop}:∀{n:Nat} {l:List α},AllI P n l->∀i a,l[i]?=some a->P (n+i) a
 | _,_,.nil,i,a,e=>by simp at e
 | n,_,.cons h t,0,a,e=>by
  simp at e
  subst e
  exact h
 | n,_,.cons h t,i+1,a,e=>by
  have:=AllI.get t i a (by simpa using e)
  rw [Nat.add_assoc,Nat.add_comm 1 i]at this
  exact this
theorem AllI.mem{α:Type}{P:α->Prop}{n:Nat}{l:List α}(h:AllI (fun _ a=>P a) n l){a:α}(m:a∈l):P a:=by
 obtain⟨i,e⟩:=List.getElem?_of_mem m
 exact AllI.get h i a e
theorem AllI.look{κ β:Type}[BEq κ][LawfulBEq κ]{P:κ->β->Prop}{n:Nat}{l:List (κ×β)}(h:AllI (fun _ p=>P p.1 p.2) n l){k:κ}{b:β}(e:l.lookup k=some b):P k b:=AllI.mem (P:=fun p=>P p.1 p.2) h (Z9 e)
noncomputable def gvP(A:Adr)(mg:Str->Option Value)(x:Str):G->Prop
 | .fn i=>mg x=some (.ref (A.f i))
 | .cls i=>mg x=some (.ref (A.c i))
 | .con k=>mg x=some (.ref (A.k k))
 | .txt t=>∃k,mg x=some (.str ⟨t.toArray⟩ k)
section
variable {P:Program}{w:World}{K:PySem.W.Frag}{mg:Str->Option Value}{base:Heap}{T:Tbl}{A:Adr}{gl:List (Str×G)}{bl:List Str}
noncomputable def QmP(A:Adr)(K:PySem.W.Frag)(k:Nat)(c:Co):Prop:=match c with
 | Co.tup xs=>∃vs,RUs A [] xs vs/\∀H,SqT K H (A.k k) vs
 | Co.lst xs=>∃vs,RUs A [] xs vs/\∀H,SqL K H (A.k k) vs
 | Co.tab _=>True
theorem Qhl(fns:AllI (fun i (F:Fn)=>∃fd,FunD K F.name F.qual F.st (A.f i) fd/\Binds K fd F.ps []/\FnScope F.N F.ps (Qa F.st)/\F.ps.length=F.np/\F.N.length=F.nN) 0 T.fns)
  (cls:AllI (fun i C=>ClOk T A K i C) 0 T.cls)
  (fm:(T.fns'.all fun x=>!(T.mns.contains x))=true) (fd:T.fns'.Nodup)
  (isi:AllI (fun _ p=>PySem.W.kitOne K (tyW A p.1.1) (tyW A p.1.2)=some p.2) 0 T.isi)
  (co:AllI (QmP A K) 0 T.cons)
  (dfs:AllI (fun _ (p:Nat×Df)=>∃fd x q st,FunD K x q st (A.f p.1) fd/\Qjz A K fd p.2/\∀F,T.fns[p.1]?=some F->F.ps=p.2.ps/\F.np=p.2.np) 0 T.dfl)
  (g:AllI (fun _ (p:Str×G)=>gvP A mg p.1 p.2) 0 gl)
  (b:AllI (fun _ x=>mg x=none) 0 bl)
  (er : AllI (fun _ c => ErrCls K (A.c c) /\ ((∀ f, T.efl.contains (c, f) = false) /\ PySem.W.excIn K (A.c c) Jp "ValueError.__new__" = true \/ ∃ f x, T.efl.contains (c, f) = true /\ (∀ f', T.efl.contains (c, f') = true -> f' = f) /\ T.fns'[f]? = some x /\ QdE K mg (A.c c) x)) 0 T.ers)
  (es:AllI (fun _ (p:Nat×Nat)=>PySem.W.exmOne K (.ref (A.c p.1)) (.ref (A.c p.2))=some true) 0 T.esb):Top T A K mg gl bl where
 txt:={
  fn:=fun i F e=>by simpa using fns.get i F e
  df:=fun i D e=>AllI.look (P:=fun i (D:Df)=>∃fd x q st,FunD K x q st (A.f i) fd/\Qjz A K fd D/\∀F,T.fns[i]?=some F->F.ps=D.ps/\F.np=D.np) dfs e
  cl:=fun i C e=>by simpa using cls.get i C e
  fm:=fun x m n=>by
   have:=List.all_eq_true.mp fm x m
   simp at this
   exact this n
  fd:=fd
  isi:=fun k t b e=>AllI.look (P:=fun(q:Ty×Ty) b=>PySem.W.kitOne K (tyW A q.1) (tyW A q.2)=some b) isi e
  co:=fun k c e=>by
   have:=co.get k c e
   simp only [Nat.zero_add]at this
   exact this
  er:=fun c h=>AllI.mem er (by simpa using h)
  es:=fun c c' h=>AllI.mem (P:=fun(p:Nat×Nat)=>PySem.W.exmOne K (.ref (A.c p.1)) (.ref (A.c p.2))=some true) es (a:=(c,c')) (by simpa using h) }
 gfn:=fun x i e=>AllI.look (P:=fun x (q:G)=>gvP A mg x q) g e
 gcl:=fun x i e=>AllI.look (P:=fun x (q:G)=>gvP A mg x q) g e
 gco:=fun x i e=>AllI.look (P:=fun x (q:G)=>gvP A mg x q) g e
 gtx:=fun x i e=>AllI.look (P:=fun x (q:G)=>gvP A mg x q) g e
 blt:=fun x h=>by
  have:bl.contains x=true:=by cases q:bl.contains x with | true=>rfl | false=>exact absurd q h
  exact AllI.mem (P:=fun x=>mg x=none) b (by simpa using this)
theorem QgB{C CB fI dt:Addr}{B sf x txt name qual:Str}{st:Stmt}{kV doc pm cdv ct oc:Value}{an od:Option Addr}{osl:Array (Option Value)}{els:Expr}{p1 p2 p3 p4 p5 p6 p7 p8 p9 p10 p11 p12 p13 p14:Pos}{k5 k7:Nat}
  (lk:K.lookup fI=some ⟨oc,od,.func (PySem.W.fnOf name qual (Qh st) (Qg st) (Qa st) (.ref dt) kV doc pm an cdv ct),osl⟩) (hcd:PySem.W.codeIn K cdv qual=true) (S:FnScope [sf,x] [sf,x] (Qa st))
  (hbd:Qg st=Qi3 B sf x txt els p1 p2 p3 p4 p5 p6 p7 p8 p9 p10 p11 p12 p13 p14 k5 k7) (M:Exi K C fI) (Y:ErrCls K C) (h1:PySem.W.specialIn K (.ref CB) "__getattribute__"=some (some (.builtin "type.__getattribute__"))) (h2:PySem.W.readsIn K CB (.type "type")=true)
  (h3:PySem.W.findCls K (.ref CB) (.type "type") "__init__"=some (.val (.builtin "ValueError.__init__"))) (hm:mg B=some (.ref CB)) (h4:PySem.W.findIn K (.ref C) "__setattr__"=some (some (.builtin "object.__setattr__"))) (h5:Jz K C=true) (h6:PySem.W.findIn K (.ref C) x=some none) (hh:PySem.W.hasDictIn K C=true)
  (hb:∀(s:Shared) (us:List Value),K.In s.heap->us.length=1->BindsTo s (PySem.W.fnOf name qual (Qh st) (Qg st) (Qa st) (.ref dt) kV doc pm an cdv ct) ⟨us,[]⟩ ([sf,x].zip (us++[.none])))
  (hg:∀L a cd,(envOfC qual (Qa st) L a cd).kindOf B=some .globalImplicit) (hdb:([B,sf,x].all fun z=>!(z==("__debug__":Str))&&!(z==("__classdict__":Str)))=true)
  (hst:∀L a cd,starEach [.Name sf p3,.IfExp (.Compare (.Name x p4) [.Is] [.Constant .none k5 p5] p6) (.Constant (.str txt) k7 p7) els p8] (envOfC qual (Qa st) L a cd)=[(false,eval (.Name sf p3) (envOfC qual (Qa st) L a cd)),(false,eval (.IfExp (.Compare (.Name x p4) [.Is] [.Constant .none k5 p5] p6) (.Constant (.str txt) k7 p7) els p8) (envOfC qual (Qa st) L a cd))])
  (hev:∀L a cd,∃pl:Sem Bool,eval (.Call (.Attribute (.Name B p1) "__init__" p2) [.Name sf p3,.IfExp (.Compare (.Name x p4) [.Is] [.Constant .none k5 p5] p6) (.Constant (.str txt) k7 p7) els p8] [] p9) (envOfC qual (Qa st) L a cd)=(do
   let ov <-eval (.Name B p1) (envOfC qual (Qa st) L a cd)
   standAt p2.atName
   let (f,first) <-holding [ov] (getMethod ov "__init__" pl)
   callWith p9 f first (backTo p9 (starEach [.Name sf p3,.IfExp (.Compare (.Name x p4) [.Is] [.Constant .none k5 p5] p6) (.Constant (.str txt) k7 p7) els p8] (envOfC qual (Qa st) L a cd))) (backToKw p9 (keywordEach [] (envOfC qual (Qa st) L a cd))))):QdE K mg C x:=by
 simp only [List.all_cons,List.all_nil,Bool.and_true,Bool.and_eq_true,Bool.not_eq_true']at hdb
 exact⟨hh,h6,fI,_,[sf,x],M,fun s us X hl=>hb s us X (Nat.succ.inj (by simpa using hl)),fun P w base=>QgC lk hcd S hbd M.q Y h1 h2 h3 hm hg hdb.1.1 h4 h5 h6 hdb.2.1.1 hdb.2.1.2 hdb.2.2.1 hdb.2.2.2 hst hev⟩
theorem Qdv(h:AllI (fun _ (F:Fn)=>compSs 100 ⟨T,F.N,(Qa F.st).names,gl,bl,F.lc⟩ (Qg F.st)=some F.body) 0 T.fns):YE T gl bl:=fun i F e=>⟨100,h.get i F e⟩
noncomputable def Qd0(K:PySem.W.Frag):Sp:=fun vs H Q _=>∃(a:Addr) (ns:List Int),vs=[.ref a]/\SqL K H a (ns.map V.int)/\Qjx H/\ns.length<=63/\∀H',Q (.bl true) H'
noncomputable def Abs:U->Int->Prop:=fun u i=>∃r m,u=.int r m/\Cg i r m
theorem Abs.rus:∀{s:List U} {ns:List Int},Paired Abs s ns->RUs A [] s (ns.map V.int)
 | _,_,.nil=>.nil
 | _,_,.cons (b:=i) ⟨r,m,e,c⟩ t=>.cons (by subst e;exact⟨i,rfl,c⟩) (Abs.rus t)
theorem Q5{x qual:Str}{st:Stmt}{f:Addr}{oc:Value}{od an:Option Addr}{osl:Array (Option Value)}{dV kV doc pm cdv ct:Value}(l:K.lookup f=some ⟨oc,od,.func (PySem.W.fnOf x qual (Qh st) (Qg st) (Qa st) dV kV doc pm an cdv ct),osl⟩)
  (c:PySem.W.codeIn K cdv qual=true) (k:PySem.W.keepIn K (.ref f)=true):FunD K x qual st f (PySem.W.fnOf x qual (Qh st) (Qg st) (Qa st) dV kV doc pm an cdv ct):=⟨⟨oc,od,dV,kV,doc,pm,an,cdv,ct,osl,rfl,l,c⟩,k⟩
theorem Zr{x qual:Str}{st:Stmt}{f:Addr}{fd:FuncData}{ps:List Str}(F:FunD K x qual st f fd)(h:∀us:List Value,us.length=ps.length->bindArgs fd ⟨us,[]⟩=pure (ps.zip us)):Binds K fd ps []:=.all h
theorem Qix{tb:List U->Tbl}{adr:Addr->Adr}{L n r:Nat}{F:Fn}{x:Str}{fd:FuncData}(hF:∀s,(tb s).fns[L]?=some F)(hs:∀s,(tb s).scr=s)(hps:F.ps=[x])(hnp:F.np=1)
  (hA:∀a,(adr a).s=a) (hf:∀a,(adr a).f=(adr 0).f)
  (tp:∀s a,Top (tb s) (adr a) K mg gl bl) (tab:∀s a,Jo P w (tb s) (adr a) K) (hb:∀s,YE (tb s) gl bl) (hX:∀s a,XOk P w K mg base (tb s) (adr a) r)
  (hfun:FunD K F.name F.qual F.st ((adr 0).f L) fd)
  (comp:∀ns:List Int,ns.length<=63->∃s hs',Paired Abs s ns/\Qd (tb s) n L [.scr] []=some (.bl true,hs')):
  FnOk P w K mg base CX0 (r+2*n) ((adr 0).f L) fd [x] (Qd0 K):=by
 refine⟨fun vs H Q E ⟨a,ns,h,_⟩=>by rw [h];rfl,fun A0 outer s H args us vs Q E hr e0 hbd rel ⟨a,ns,h,hS,hO,hl,q⟩=>?_⟩
 obtain⟨sc,hs',pr,hc⟩:=comp ns hl
 obtain⟨fd',G,_,_,hfun'⟩:=JO (base:=base) (tp sc a) (tab sc a) (hb sc) (hX sc a) n L F (hF sc)
 rw [hf a]at G hfun'
 have ef:=FunD.same hfun hfun'
 subst ef
 rw [hps]at G
 refine G.run A0 outer s H args us vs Q E hr e0 hbd rel ?_
 subst h
 refine⟨[],[.scr],[],.bl true,hs',.cons (show V.ref a=V.ref (adr a).s by rw [hA]) .nil,⟨⟨rfl,(fun i j a e _=>by simp at e),fun n b o e _=>by simp at e⟩,ns.map V.int,by rw [hs];exact Abs.rus pr,?_⟩,hc,⟨F,hF sc,hnp.symm⟩,fun α' v H' _ _ rv=>?_⟩
 ·rw [hA]
  rcases hS with(h | ⟨o,h⟩) | h
  ·rcases hO a with z | ⟨o,xs,z⟩
   ·rw [h]at z;cases z
   ·rw [h]at z;cases z
  ·exact .inl ⟨o,h⟩
  ·exact .inr h
 ·have:v=.bl true:=rv
  subst this
  exact q H'
end
end Iv
namespace Iv
open PySem PySem.W PySem.Spec PyProof.Rows
noncomputable def Yp(tb:String->Option Builtin)(p:Program)(w:World)(n₀:Nat)(ann:Option Value):Nat->SharedT->Thread->Option SharedT
 | 0,_,_=>none
 | n+1,s,t=>match through t with
  | true=>some s
  | false=>match stepOk n₀ ann t with
   | false=>none
   | true=>match stepT (denote tb) p w s t with
    | some (s',t')=>Yp tb p w n₀ ann n s' t'
    | none=>none
theorem Js{tb:String->Option Builtin}{p:Program}{w:World}{n₀:Nat}{ann:Option Value}:∀{n:Nat} {s s':SharedT} {t:Thread},Yp tb p w n₀ ann n s t=some s'->topRun tb p w n₀ ann n s.abs t=some s'.abs
 | 0,_,_,_,h=>by cases h
 | n+1,s,s',t,h=>by
  unfold Yp at h
  unfold topRun
  cases he:through t with
  | true=>rw [he]at h;cases h;rfl
  | false =>
   rw [he]at h
   cases hk:stepOk n₀ ann t with
   | false=>rw [hk]at h;cases h
   | true =>
    rw [hk]at h
    cases hs:stepT (denote tb) p w s t with
    | none=>rw [hs]at h;cases h
    | some r=>obtain⟨s₂,t₂⟩:=r;rw [hs]at h;rw [stepT_spec hs];exact Js h
structure BootT where
 t:Params->BT
 n:Nat
 life:Life
noncomputable def BootT.at(B:BootT)(w:World)(os:OsState):SharedT:=⟨B.t w.params,B.n,B.life,Array.mk [],boot_drawn,boot_toks,os⟩
noncomputable abbrev RunT(p q:Program)(loose:List Str)(Xt:Shared->Bool){α:Type}(Yf:Shared->α)(Ya:World->α)(N:Nat)(g0:Bool)(B:BootT)(m₀:Nat)(ann:Option Value)(w:World):Prop :=
 ∀os:OsState,(Yp treeTable p w m₀ ann N (B.at w os) (topStub p)).map (fun s=>((staticsOk (importedModules p.main.body) (boot_heap w.params) s.abs.heap&&namesBound p s.abs.heap&&gensDone s.abs&&laidKept (boot_heap w.params) s.abs.heap),openSeen q loose (importedModules p.main.body) Xt g0 s.abs,Yf s.abs))=some (true,openGood q loose,Ya w)
theorem left_tree{p q:Program}{loose:List Str}{Xt:Shared->Bool}{α:Type}{Yf:Shared->α}{Ya:World->α}{N:Nat}{g0:Bool}{B:BootT}{m₀:Nat}{ann:Option Value}
  (op:opening p=plainProg p.main.scope.names) (hN:Nat.ble 600 N=true) (fm:∀s,fenceModules? p s=some s)
  (hB:∀w:World,absHeap (B.t w.params) B.n B.life=boot_heap w.params)
  (size:∀w:World,((boot_heap w.params).isNs mainGlobals,(boot_heap w.params).objs.size,(boot_heap w.params).nsMap mainGlobals "__annotations__")=(true,m₀,ann))
  (run:∀w,RunT p q loose Xt Yf Ya N g0 B m₀ ann w):LeftO p q loose Xt Yf Ya N g0:=fun w=>by
 obtain⟨⟨h,gs,d,k,os⟩,e,e'⟩:=Option.map_eq_some_iff.mp (boot_open (N:=N) op hN fm w)
 obtain⟨rfl,rfl,rfl,rfl⟩:h=boot_heap w.params/\gs=Array.mk []/\d=boot_drawn/\k=boot_toks:=by simpa using e'
 obtain⟨z1,z2,z3⟩:_/\_/\_:=by simpa only [Prod.mk.injEq]using size w
 obtain⟨s1,r,l⟩:=Option.map_eq_some_iff.mp (run w os)
 obtain⟨l1,l2,l3⟩:_/\_/\_:=by simpa only [Prod.mk.injEq]using l
 have r:=Js r
 have ab:(B.at w os).abs=⟨boot_heap w.params,Array.mk [],boot_drawn,boot_toks,os⟩:=by
  unfold BootT.at SharedT.abs
  rw [hB w]
 rw [ab]at r
 have t:topFrom treeTable p w N ⟨boot_heap w.params,Array.mk [],boot_drawn,boot_toks,os⟩=some s1.abs:=by
  unfold topFrom
  dsimp only
  rw [z1,z2,z3,r]
  show(match staticsOk (importedModules p.main.body) (boot_heap w.params) s1.abs.heap&&namesBound p s1.abs.heap&&gensDone s1.abs&&laidKept (boot_heap w.params) s1.abs.heap with | true=>_ | false=>_)=_
  rw [l1]
 unfold openEnds
 rw [e]
 show(topFrom treeTable p w N _).map _=_
 rw [t]
 exact congrArg some (Prod.ext l2 l3)
section
variable (p q:Program)(loose:List Str)(Xt:Shared->Bool)(N:Nat)(g0:Bool)(B:BootT)(m₀:Nat)(ann:Option Value)
noncomputable abbrev QkY(w:World)(os:OsState):Option SharedT:=Yp treeTable p w m₀ ann N (B.at w os) (topStub p)
noncomputable abbrev PC(as:List Addr)(bs:List (Option Obj))(w:World):Prop:=∀os:OsState,(QkY p N B m₀ ann w os).map (fun s=>as.map fun a=>s.abs.heap.get? a)=some bs
variable {p q loose Xt N g0 B m₀ ann}
noncomputable abbrev PL(p q:Program)(loose:List Str)(Xt:Shared->Bool)(N:Nat)(g0:Bool)(B:BootT)(m₀:Nat)(ann:Option Value)(w:World):Prop:=∀os:OsState,(QkY p N B m₀ ann w os).map (fun s=>((staticsOk (importedModules p.main.body) (boot_heap w.params) s.abs.heap&&namesBound p s.abs.heap&&gensDone s.abs&&laidKept (boot_heap w.params) s.abs.heap),openSeen q loose (importedModules p.main.body) Xt g0 s.abs))=some (true,openGood q loose)
end
noncomputable abbrev PX(p:Program)(N:Nat)(B:BootT)(m₀:Nat)(ann:Option Value){α:Type}(f:Shared->α)(a:α)(w:World):Prop:=∀os:OsState,(QkY p N B m₀ ann w os).map (fun s=>f s.abs)=some a
noncomputable abbrev f1(q:Program)(s:Shared):=seen ((recsOf q).map (·.name)) (ownsOf q) [] { s with gens:=#[] }
noncomputable abbrev f2(s:Shared):=s.heap.bltView
noncomputable abbrev f3(q:Program)(loose:List Str)(s:Shared):Bool:=s.heap.keysOk (looseW q loose) ((recsOf q).map (·.name)) ((litsOf q).map (·.1)) ((clssOf q (looseW q loose)).map (·.name))
noncomputable abbrev f4(q:Program)(mods:List Str)(Xt:Shared->Bool)(g0:Bool)(s:Shared):Bool:=s.heap.accountedOkI mods&&s.heap.isNs mainGlobals&&s.heap.isNs builtinsNs&&tablesOk q s.heap&&Xt s&&(if g0 then s.gens.size==0 else !leftWithCleanup s.gens)
noncomputable abbrev f5(q:Program)(s:Shared):Bool:=tabsOk q s
noncomputable abbrev f6(q:Program)(loose:List Str)(s:Shared):=(pinSeenD q (drecsOf q) s,plainSeenE q (looseW q loose) s,plainSeenD q loose s)
noncomputable abbrev f7(q:Program)(loose:List Str)(s:Shared):=(wideSeen q s,clsSeenW q loose s)
noncomputable abbrev fA(p:Program)(w:World)(s:Shared):Bool:=staticsOk (importedModules p.main.body) (boot_heap w.params) s.heap&&namesBound p s.heap&&gensDone s&&laidKept (boot_heap w.params) s.heap
noncomputable abbrev Lk1(p q:Program)(N:Nat)(B:BootT)(m₀:Nat)(ann:Option Value)(w:World):Prop:=PX p N B m₀ ann (fun s=>(fA p w s,f1 q s,f2 s)) (true,expectedOf q,bltViewBooted) w
noncomputable abbrev Lk2(p q:Program)(loose:List Str)(Xt:Shared->Bool)(N:Nat)(g0:Bool)(B:BootT)(m₀:Nat)(ann:Option Value)(w:World):Prop:=PX p N B m₀ ann (fun s=>(f3 q loose s,f4 q (importedModules p.main.body) Xt g0 s,f5 q s,f6 q loose s,f7 q loose s)) (true,true,true,(pinGoodD (drecsOf q),plainGoodE q (looseW q loose),plainGoodD q loose),(wideGood q,clsGoodW q loose)) w
noncomputable abbrev Lk3(p q:Program)(loose:List Str)(N:Nat)(B:BootT)(m₀:Nat)(ann:Option Value)(w:World):Prop:=PX p N B m₀ ann (fun s=>(f3 q loose s,f5 q s)) (true,true) w
noncomputable abbrev Lk5(p q:Program)(Xt:Shared->Bool)(N:Nat)(g0:Bool)(B:BootT)(m₀:Nat)(ann:Option Value)(w:World):Prop:=PX p N B m₀ ann (f4 q (importedModules p.main.body) Xt g0) true w
noncomputable abbrev Lk4(p q:Program)(loose:List Str)(N:Nat)(B:BootT)(m₀:Nat)(ann:Option Value)(w:World):Prop:=PX p N B m₀ ann (fun s=>(f6 q loose s,f7 q loose s)) ((pinGoodD (drecsOf q),plainGoodE q (looseW q loose),plainGoodD q loose),(wideGood q,clsGoodW q loose)) w
section
variable {p:Program}{w:World}{m₀:Nat}{ann:Option Value}{α:Type}{F:Shared->α}{a:α}{env:Env}{q:Pos}
end
noncomputable abbrev QjP(p q:Program)(loose:List Str)(Xt:Shared->Bool){α:Type}(Yf:Shared->α)(g0:Bool)(w:World)(s:Shared):=((staticsOk (importedModules p.main.body) (boot_heap w.params) s.heap&&namesBound p s.heap&&gensDone s&&laidKept (boot_heap w.params) s.heap),openSeen q loose (importedModules p.main.body) Xt g0 s,Yf s)
noncomputable abbrev vF(p q:Program)(w:World)(s:SharedT):=(fA p w s.abs,f1 q s.abs,f2 s.abs)
noncomputable abbrev gF(q:Program):=(true,expectedOf q,bltViewBooted)
noncomputable abbrev vK(p q:Program)(loose:List Str)(Xt:Shared->Bool)(g0:Bool)(s:SharedT):=(f3 q loose s.abs,f4 q (importedModules p.main.body) Xt g0 s.abs,f5 q s.abs)
noncomputable abbrev vL(q:Program)(loose:List Str)(s:SharedT):=(f6 q loose s.abs,f7 q loose s.abs)
noncomputable abbrev gL(q:Program)(loose:List Str):=((pinGoodD (drecsOf q),plainGoodE q (looseW q loose),plainGoodD q loose),(wideGood q,clsGoodW q loose))
end Iv
namespace Iv
open PySem
section
variable {T:Tbl}{cf:Cf}{d:Nat}{ρ:Rho}{hs h1:Hs}{α β:Type}
theorem Zs{a:α}{f:α->Hs->Option β}:bd (some (a,h1)) f=f a h1:=rfl
theorem QQ:exs T cf (d+1) [] ρ hs=some (.next,ρ,hs):=rfl
theorem Qm{s:S}{r:List S}:exs T cf (d+1) (s::r) ρ hs=(match ex T cf d s ρ hs with
   | some (.next,ρ1,h1)=>exs T cf d r ρ1 h1
   | x=>x):=rfl
theorem Qq{e:E}:ex T cf (d+1) (.expr e) ρ hs=bd (ev T cf d e ρ hs) fun _ h1=>some (.next,ρ,h1):=rfl
theorem QJ{i:Nat}{e:E}:ex T cf (d+1) (.set i e) ρ hs=bd (ev T cf d e ρ hs) fun u h1=>some (.next,ρ.set i (some u),h1):=rfl
theorem QK{e:E}:ex T cf (d+1) (.ret e) ρ hs=bd (ev T cf d e ρ hs) fun u h1=>some (.ret u,ρ,h1):=rfl
theorem QT{t:E}{a b:List S}:ex T cf (d+1) (.ite t a b) ρ hs=bd (evT T cf d t ρ hs) fun c h1=>if c=true then exs T cf d a ρ h1 else exs T cf d b ρ h1:=by
 rw [ex]
 cases h:evT T cf d t ρ hs with
 | none=>rfl
 | some p=>obtain⟨c,h1⟩:=p;cases c<;>rfl
theorem Qn{t:Tg}{s:Src}{body:List S}:ex T cf (d+1) (.loop t s body) ρ hs=bd (Za T (ev T cf d) ρ s hs) fun w h1=>Qaa T w t (exs T cf d body) (QE T w h1) 0 ρ h1:=rfl
theorem QN{o i e:E}:ex T cf (d+1) (.put o i e) ρ hs=bd (ev T cf d e ρ hs) fun u h1=>bd (ev T cf d o ρ h1) fun x h2=>bd (ev T cf d i ρ h2) fun k h3=>(Qll x k u h3).map fun h4=>(.next,ρ,h4):=rfl
theorem y_c{u:U}:ev T cf (d+1) (.c u) ρ hs=some (u,hs):=rfl
theorem QW{k:Nat}:ev T cf (d+1) (.con k) ρ hs=some (.con k,hs):=rfl
theorem QI{i:Nat}:ev T cf (d+1) (.var i) ρ hs=(match ρ[i]? with | some (some u)=>some (u,hs) | _=>none):=rfl
theorem ZE{o:Operator}{a b:E}:ev T cf (d+1) (.op o a b) ρ hs=bd (ev T cf d a ρ hs) fun u h1=>bd (ev T cf d b ρ h1) fun w h2=>opU o u w h2:=rfl
theorem QR{a:E}:ev T cf (d+1) (.neg a) ρ hs=bd (ev T cf d a ρ hs) fun u h1=>(match u with | .int i m=>some (.int (-i) m,h1) | _=>none):=rfl
theorem QX{o:CmpOp}{a b:E}:ev T cf (d+1) (.cmp o a b) ρ hs=bd (ev T cf d a ρ hs) fun u h1=>bd (ev T cf d b ρ h1) fun w h2=>(Zm T o u w h2).map fun c=>(.bl c,h2):=rfl
theorem QP{a:E}:ev T cf (d+1) (.not a) ρ hs=bd (ev T cf d a ρ hs) fun u h1=>(Zg T u h1).map fun c=>(.bl (!c),h1):=rfl
theorem QV{t a b:E}:ev T cf (d+1) (.ife t a b) ρ hs=bd (evT T cf d t ρ hs) fun c h1=>if c=true then ev T cf d a ρ h1 else ev T cf d b ρ h1:=rfl
theorem QM{es:List E}:ev T cf (d+1) (.tup es) ρ hs=bd (evs (ev T cf d) ρ es hs) fun us h1=>some (.ref h1.length,h1++[.tup us]):=rfl
theorem QS{es:List E}:ev T cf (d+1) (.lst es) ρ hs=bd (evs (ev T cf d) ρ es hs) fun us h1=>some (.ref h1.length,h1++[.lst us]):=rfl
theorem ZH{a b:E}:ev T cf (d+1) (.ix a b) ρ hs=bd (ev T cf d a ρ hs) fun u h1=>bd (ev T cf d b ρ h1) fun w h2=>(Zi T u w h2).map fun x=>(x,h2):=rfl
theorem ZD{a:E}{lo hi:Option E}:ev T cf (d+1) (.sl a lo hi) ρ hs=bd (ev T cf d a ρ hs) fun u h1=>bd (evO (ev T cf d) ρ lo h1) fun l h2=>bd (evO (ev T cf d) ρ hi h2) fun r h3=>slU T u l r h3:=rfl
theorem Qp{f:Nat}{es:List E}:ev T cf (d+1) (.call f es) ρ hs=bd (evs (ev T cf d) ρ es hs) fun us h1=>cf f us h1:=rfl
theorem ZF{b:Bi}{es:List E}:ev T cf (d+1) (.bi b es) ρ hs=bd (evs (ev T cf d) ρ es hs) fun us h1=>biU T b us h1:=rfl
theorem QU{a:E}{t:Ty}:ev T cf (d+1) (.isi a t) ρ hs=bd (ev T cf d a ρ hs) fun u h1=>(Qfk T t u h1).map fun b=>(.bl b,h1):=rfl
theorem ZI{b:Bm}{o:E}{es:List E}:ev T cf (d+1) (.bm b o es) ρ hs=bd (ev T cf d o ρ hs) fun u h1=>if Qg8 b u h1=true then bd (evs (ev T cf d) ρ es h1) fun us h2=>bmU T b u us h2 else none:=rfl
theorem Qs{s:Src}{b:Bool}{t:Option E}{el:E}:ev T cf (d+1) (.comp s b t el) ρ hs=bd (Za T (ev T cf d) ρ s hs) fun w h1=>bd (Zy T (ev T cf d) (YI (evT T cf d) t) w b el ρ (QE T w h1) 0 [] h1) fun us h2=>some (.ref h2.length,h2++[.lst us]):=rfl
theorem Qi{o o':CmpOp}{a b c:E}:ev T cf (d+1) (.chain o o' a b c) ρ hs=bd (ev T cf d a ρ hs) fun u h1=>bd (ev T cf d b ρ h1) fun w h2=>(match Zm T o u w h2 with
   | some true=>bd (ev T cf d c ρ h2) fun x h3=>(Zm T o' w x h3).map fun k=>(.bl k,h3)
   | some false=>some (.bl false,h2)
   | none=>none):=rfl
theorem QZ{a b:E}:ev T cf (d+1) (.and a b) ρ hs=bd (ev T cf d a ρ hs) fun u h1=>(match u with | .bl true=>ev T cf d b ρ h1 | .bl false=>some (.bl false,h1) | _=>none):=rfl
theorem ZG{a b:E}:ev T cf (d+1) (.or a b) ρ hs=bd (ev T cf d a ρ hs) fun u h1=>(match u with | .bl true=>some (.bl true,h1) | .bl false=>ev T cf d b ρ h1 | _=>none):=rfl
theorem QY{i:Nat}{o:Operator}{e:E}:ex T cf (d+1) (.aug i o e) ρ hs=(match ρ[i]? with
   | some (some u)=>bd (ev T cf d e ρ hs) fun w h1=>(QlF o u w).map fun r=>(.next,ρ.set i (some r),h1)
   | _=>none):=rfl
theorem QL{i j:Nat}{e:E}:ex T cf (d+1) (.unp i j e) ρ hs=bd (ev T cf d e ρ hs) fun u h1=>(tgt (.pair i j) (.one u) ρ h1).map fun ρ'=>(.next,ρ',h1):=rfl
theorem QO{i j:Nat}{a b:E}:ex T cf (d+1) (.par i j a b) ρ hs=bd (ev T cf d a ρ hs) fun u h1=>bd (ev T cf d b ρ h1) fun w h2=>some (.next,(ρ.set i (some u)).set j (some w),h2):=rfl
theorem Qr:ev T cf (d+1) .dnew ρ hs=some (.ref hs.length,hs++[.dic []]):=rfl
theorem Qu{a:E}:evT T cf (d+1) (.not a) ρ hs=bd (evT T cf d a ρ hs) fun c h1=>some (!c,h1):=rfl
theorem Qx{a b:E}:evT T cf (d+1) (.and a b) ρ hs=bd (evT T cf d a ρ hs) fun c h1=>if c=true then evT T cf d b ρ h1 else some (false,h1):=rfl
theorem Q0{a b:E}:evT T cf (d+1) (.or a b) ρ hs=bd (evT T cf d a ρ hs) fun c h1=>if c=true then some (true,h1)else evT T cf d b ρ h1:=rfl
theorem Qw{o:CmpOp}{a b:E}:evT T cf (d+1) (.cmp o a b) ρ hs=bd (ev T cf d (.cmp o a b) ρ hs) fun u h1=>(Zg T u h1).map fun c=>(c,h1):=rfl
theorem Qt{i:Nat}:evT T cf (d+1) (.var i) ρ hs=bd (ev T cf d (.var i) ρ hs) fun u h1=>(Zg T u h1).map fun c=>(c,h1):=rfl
theorem Qv{a:E}{t:Ty}:evT T cf (d+1) (.isi a t) ρ hs=bd (ev T cf d (.isi a t) ρ hs) fun u h1=>(Zg T u h1).map fun c=>(c,h1):=rfl
theorem Qj{f:Nat}{es:List E}:evT T cf (d+1) (.call f es) ρ hs=bd (ev T cf d (.call f es) ρ hs) fun u h1=>(Zg T u h1).map fun c=>(c,h1):=rfl
theorem Qhe{f:Ev}{es:List E}{i j c:Int}(h:evs f ρ es hs=some ([.int i 0,.int j 0,.int c 0],h1))(c1:(Ql (i*16)&&Ql (j*16)&&decide (0<c)&&decide (c<1073741824))=true):Za T f ρ (.rngA es) hs=some (.rngC i c (Qd7 i j c),h1):=by
 simp only [Za,h,Zs,c1,if_true]
theorem Q2{n f:Nat}{us:List U}(F:Fn)(hF:T.fns[f]?=some F)(hl:us.length=F.np):Qd T (n+1) f us hs=fin (exs T (Qd T n) dd F.body (QhP us F.nN) hs):=by simp [Qd,hF,hl]
end
end Iv
namespace Iv
open PySem PySem.Spec PyProof.Rows L2
noncomputable def TX(T:Tbl)(A:Adr)(K:PySem.W.Frag)(f:Rho->Hs->Option (Nat×Hs))(E:XK):TS:=fun _ σ H=>∃α ρ hs c hs',RS A α ρ σ/\Rep T A K α hs H/\f ρ hs=some (c,hs') /\
 ∀α' H' dd,Ext α α' H H'->Rep T A K α' hs' H'->EF T H' c dd->E (.ref (A.c c)) dd H'
section
variable {X:Cx}{T:Tbl}{A:Adr}{C:Ctx}{cf:Cf}{m k:Nat}{E:XK}
theorem Qk0{st:Stmt}{t:TS}(h:PS X.nox st t):PS X st t:=fun pins s σ H D I hw =>
 wpAny_mono (h pins s σ H D (I.wish _) hw) (fun _ _ q=>q.unwish) fun _ _ z=>False.elim z
theorem Qjg{es:List Expr}{t:TA}(h:PA X.nox es t):PA X es t:=fun pos pins s σ H Q I hw =>
 wpAny_mono (h pos pins s σ H Q (I.wish _) hw) (fun _ _ ⟨vs,H',I',r,q⟩=>⟨vs,H',I'.unwish,r,q⟩) fun _ _ z=>False.elim z
theorem TX.run{K:PySem.W.Frag}{α:List Addr}{ρ:Rho}{σ:St}{hs h1:Hs}{H:Hp}{f:Rho->Hs->Option (Nat×Hs)}{c:Nat}{D:Ends}(rs:RS A α ρ σ)(rp:Rep T A K α hs H)(h:f ρ hs=some (c,h1))
  (q:∀α1 H1 dd,Ext α α1 H H1->Rep T A K α1 h1 H1->EF T H1 c dd->E (.ref (A.c c)) dd H1):TX T A K f E D σ H:=⟨α,ρ,hs,c,h1,rs,rp,h,q⟩
theorem Qd5 {e f : Option Expr} {c : Nat} {args : List Expr} (h : Qd6 C e f = some (c, args)) : ∃ x px q, e = some (.Call (.Name x px) args [] q) /\ f = none /\ ZQ C x = true /\ x ≠ "__debug__" /\ C.gl.lookup x = some (.cls c) /\ C.T.ers.contains c = true := by
 unfold Qd6 at h
 split at h
 ·split at h
  ·rename_i q
   simp only [Bool.and_eq_true,decide_eq_true_eq]at q
   split at h
   ·rename_i z
    split at h
    ·rename_i z2
     cases h
     exact⟨_,_,_,rfl,rfl,q.1,q.2,z,z2⟩
    ·cases h
   ·cases h
  ·cases h
 ·cases h
structure SndX(T:Tbl)(A:Adr)(C:Ctx)(X:Cx)(cf:Cf)(E:XK)(m:Nat):Prop where
 s:∀d st ir,Q9 m C st=some ir->PS X st (TX T A X.K (exX T cf d ir) E)
 ss:∀d sts irs,compSs m C sts=some irs->PSs X sts (TX T A X.K (exsX T cf d irs) E)
noncomputable def kdX:S->Bool
 | .rse .. | .ite .. | .cal .. | .loop ..=>true
 | _=>false
noncomputable def nx(o:Option S):Prop:=∀ir,o=some ir->kdX ir=false
theorem Zj:nx none:=fun _ h=>nomatch h
theorem ZB{s:S}(h:kdX s=false):nx (some s):=fun _ e=>by cases e;exact h
theorem ZO{α:Type}{o:Option α}{f:α->Option S}(h:∀a,nx (f a)):nx (o.bind f):=by
 cases o with
 | none=>exact Zj
 | some a=>exact h a
theorem Qcz{α:Type}{o:Option α}{f:α->S}(h:∀a,kdX (f a)=false):nx (o.map f):=by
 cases o with
 | none=>exact Zj
 | some a=>exact ZB (h a)
theorem QcA{c:Prop}[Decidable c]{a b:Option S}(ha:nx a)(hb:nx b):nx (if c then a else b):=by
 by_cases h:c
 ·rw [if_pos h];exact ha
 ·rw [if_neg h];exact hb
theorem Y9{st:Stmt}(h1:∀e f p,st≠.Raise e f p)(h2:∀t a b p,st≠.If t a b p)(h3:∀tg it a o p,st≠.For tg it a o p):nx (Q9 (m+1) C st):=by
 cases st with
 | Raise e f p=>exact absurd rfl (h1 e f p)
 | If t a b p=>exact absurd rfl (h2 t a b p)
 | Pass=>exact ZB rfl
 | Break=>exact ZB rfl
 | Continue=>exact ZB rfl
 | Expr e p =>
  unfold Q9
  dsimp only
  generalize QkI e=z
  rcases z with _ | _ | _
  ·exact Qcz fun _=>rfl
  ·exact Zj
  ·exact ZB rfl
 | Return v p =>
  cases v with
  | none=>exact ZB rfl
  | some e=>exact Qcz fun _=>rfl
 | Assign ts e p =>
  unfold Q9
  dsimp only
  generalize Qg3 ts=z
  rcases z with _ | z
  ·exact Zj
  ·cases z with
   | nm x=>exact QcA (ZO fun _=>QcA (ZB rfl) (ZO fun _=>ZB rfl)) Zj
   | «at» o f=>exact Zj
   | sub o i=>exact Zj
   | two x p y q =>
    refine QcA (ZO fun _=>ZO fun _=>?_) Zj
    generalize Qfb e=z
    rcases z with _ | ⟨a,b⟩
    ·exact QcA (Qcz fun _=>rfl) Zj
    ·exact Zj
 | Try b hs o fn p=>exact QcA (ZO fun _=>ZO fun _=>ZO fun _=>ZB rfl) Zj
 | For tg it a o p=>exact absurd rfl (h3 tg it a o p)
 | _=>exact Zj
noncomputable def Qmg(C:Ctx)(m:Nat)(tg it:Expr)(a:List Stmt):S->Prop
 | .loop t s b=>Yd C tg=some t/\compSrc m C it=some s/\Qak s t=true/\compSs m C a=some b
 | .loopK ..=>True
 | .loopC ..=>True
 | .loopD ..=>True
 | _=>False
theorem Z2{tg it:Expr}{a o:List Stmt}{p:Pos}{ir:S}(h:Q9 (m+1) C (.For tg it a o p)=some ir):o=[]/\Qmg C m tg it a ir:=by
 cases o with
 | cons _ _=>exact nomatch (show none=some _ from h)
 | nil =>
  unfold Q9 at h;simp only [Option.bind_eq_some_iff]at h
  obtain⟨tg',ht,it',hi,h⟩:=h
  split at h
  ·simp only [Option.bind_eq_some_iff]at h
   obtain⟨_,_,_,_,h⟩:=h
   cases h
   exact⟨rfl,trivial⟩
  ·split at h
   ·rename_i ok
    simp only [Option.bind_eq_some_iff]at h
    obtain⟨a',ha,h⟩:=h
    cases h
    exact⟨rfl,ht,hi,ok,ha⟩
   ·cases h
theorem Qjr(st:Stmt):(∃e f p,st=.Raise e f p)\/(∃t a b p,st=.If t a b p)\/(∃tg it a o p,st=.For tg it a o p)\/((∀e f p,st≠.Raise e f p)/\(∀t a b p,st≠.If t a b p)/\∀tg it a o p,st≠.For tg it a o p):=by
 cases st with
 | Raise e f p=>exact .inl ⟨e,f,p,rfl⟩
 | If t a b p=>exact .inr (.inl ⟨t,a,b,p,rfl⟩)
 | For tg it a o p=>exact .inr (.inr (.inl ⟨tg,it,a,o,p,rfl⟩))
 | _=>exact .inr (.inr (.inr ⟨fun _ _ _ z=>(nomatch z),fun _ _ _ _ z=>(nomatch z),fun _ _ _ _ _ z=>(nomatch z)⟩))
theorem ZC{e f:Option Expr}{p:Pos}{ir:S}(h:Q9 (m+1) C (.Raise e f p)=some ir):ir=.bad\/∃c args es,Qd6 C e f=some (c,args)/\compA m C args=some es/\ir=.rse c es:=by
 unfold Q9 at h;try dsimp only at h
 split at h
 ·rename_i c args hr
  simp only [Option.bind_eq_some_iff]at h
  obtain⟨es,he,h⟩:=h
  cases h
  exact .inr ⟨c,args,es,hr,he,rfl⟩
 ·cases h
  exact .inl rfl
theorem Yn{t0:Expr}{a0 b0:List Stmt}{p:Pos}{ir:S}(h:Q9 (m+1) C (.If t0 a0 b0 p)=some ir):∃t a b,compT m C t0=some t/\compSs m C a0=some a/\compSs m C b0=some b/\ir=.ite t a b:=by
 unfold Q9 at h;simp only [Option.bind_eq_some_iff]at h
 obtain⟨t',ht,a',ha,b',hb,h⟩:=h
 cases h
 exact⟨t',a',b',ht,ha,hb,rfl⟩
theorem Qdi {st : Stmt} {c : Nat} {es : List Iv.E} (h : Q9 (m + 1) C st = some (.rse c es)) : ∃ x px q args p, st = .Raise (some (.Call (.Name x px) args [] q)) none p /\ compA m C args = some es /\ ZQ C x = true /\ x ≠ "__debug__" /\ C.gl.lookup x = some (.cls c) /\ C.T.ers.contains c = true := by
 rcases Qjr st with⟨e,f,p,rfl⟩ | ⟨t,a,b,p,rfl⟩ | ⟨tg,it,a,o,p,rfl⟩ | ⟨h1,h2,h3⟩
 ·rcases ZC h with z | ⟨c',args,es',hr,he,z⟩
  ·cases z
  ·cases z
   obtain⟨x,px,q,rfl,rfl,h1,h2,h3,h4⟩:=Qd5 hr
   exact⟨x,px,q,args,p,rfl,he,h1,h2,h3,h4⟩
 ·obtain⟨_,_,_,_,_,_,z⟩:=Yn h
  cases z
 ·exact(Z2 h).2.elim
 ·exact nomatch Y9 h1 h2 h3 _ h
theorem Qdj{st:Stmt}{t:Iv.E}{a b:List S}(h:Q9 (m+1) C st=some (.ite t a b)):∃t0 a0 b0 p,st=.If t0 a0 b0 p/\compT m C t0=some t/\compSs m C a0=some a/\compSs m C b0=some b:=by
 rcases Qjr st with⟨e,f,p,rfl⟩ | ⟨t0,a0,b0,p,rfl⟩ | ⟨tg,it,a,o,p,rfl⟩ | ⟨h1,h2,h3⟩
 ·rcases ZC h with z | ⟨_,_,_,_,_,z⟩<;>cases z
 ·obtain⟨t',a',b',ht,ha,hb,z⟩:=Yn h
  cases z
  exact⟨t0,a0,b0,p,rfl,ht,ha,hb⟩
 ·exact(Z2 h).2.elim
 ·exact nomatch Y9 h1 h2 h3 _ h
theorem QbF{st:Stmt}{t:Tg}{s:Src}{b:List S}(h:Q9 (m+1) C st=some (.loop t s b)):∃tg it a p,st=.For tg it a [] p/\Yd C tg=some t/\compSrc m C it=some s/\Qak s t=true/\compSs m C a=some b:=by
 rcases Qjr st with⟨e,f,p,rfl⟩ | ⟨t0,a0,b0,p,rfl⟩ | ⟨tg,it,a,o,p,rfl⟩ | ⟨h1,h2,h3⟩
 ·rcases ZC h with z | ⟨_,_,_,_,_,z⟩<;>cases z
 ·obtain⟨_,_,_,_,_,_,z⟩:=Yn h
  cases z
 ·obtain⟨rfl,q⟩:=Z2 h
  exact⟨tg,it,a,p,rfl,q⟩
 ·exact nomatch Y9 h1 h2 h3 _ h
theorem Qdk{st:Stmt}{n:S}{f:Nat}{es:List Iv.E}(h:Q9 (m+1) C st=some (.cal n f es)):False:=by
 rcases Qjr st with⟨e,f,p,rfl⟩ | ⟨t0,a0,b0,p,rfl⟩ | ⟨tg,it,a,o,p,rfl⟩ | ⟨h1,h2,h3⟩
 ·rcases ZC h with z | ⟨_,_,_,_,_,z⟩<;>cases z
 ·obtain⟨_,_,_,_,_,_,z⟩:=Yn h
  cases z
 ·exact(Z2 h).2
 ·exact nomatch Y9 h1 h2 h3 _ h
theorem QeN {x : Str} {as : List Expr} {t : Nat × List Expr} (h : QeO C x as = some t) : ZQ C x = true /\ x ≠ "__debug__" /\ C.gl.lookup x = some (.fn t.1) /\ t.2 = as := by
 unfold QeO at h
 rw [Option.bind_eq_some_iff]at h
 obtain⟨k,hk,h⟩:=h
 rw [Option.ite_none_right_eq_some]at h
 obtain⟨_,h⟩:=h
 cases h
 obtain⟨h1,h2,h3⟩:=QaK hk
 exact⟨h1,h2,h3,rfl⟩
theorem QaD {e : Expr} {t : Nat × List Expr} (h : Qhb C e = some t) : ∃ f pf a args q, e = .Call (.Name f pf) (a :: args) [] q /\ t.2 = a :: args /\ ZQ C f = true /\ f ≠ "__debug__" /\ C.gl.lookup f = some (.fn t.1) := by
 cases e with
 | Call g as ks q =>
  cases g with
  | Name f pf =>
   cases as with
   | nil=>cases h
   | cons a r =>
    cases ks with
    | cons _ _=>cases h
    | nil =>
     obtain⟨h1,h2,h3,h4⟩:=QeN (show QeO C f (a::r)=some t from h)
     exact⟨f,pf,a,r,q,rfl,h4,h1,h2,h3⟩
  | _=>exact nomatch (show none=some _ from h)
 | _=>exact nomatch (show none=some _ from h)
noncomputable def TXE(T:Tbl)(A:Adr)(K:PySem.W.Frag)(f:Rho->Hs->Option (Nat×Hs))(E:XK):TE:=fun σ H _=>∃α ρ hs c hs',RS A α ρ σ/\Rep T A K α hs H/\f ρ hs=some (c,hs') /\
 ∀α' H' dd,Ext α α' H H'->Rep T A K α' hs' H'->EF T H' c dd->E (.ref (A.c c)) dd H'
noncomputable abbrev Qg6(X:Cx)(A:Adr)(E:XK):Prop:=∀pins σ H H' s s' e B a0 c dd,Inv X pins σ H s->Inv X pins σ H' s'->Heap.FlyingW B X.stack e (.ref (A.c c)) a0 s'.heap->Cov B H' s X.stack->H' e=none->X.s₀.heap.get? e=none->DictAt s'.heap e dd->E (.ref (A.c c)) dd H'->X.xe (.ref e) s'
theorem Qcp{f:Str}{pf q1:Pos}{a:Expr}{args:List Expr}{i d:Nat}{es:List Iv.E}(hxf:Qg6 X A E)(bX:Bd X)(g:GX T A C X.nox)(F:Fc X.nox T A cf k)(hr:Room k X.A)(S:Snd T A C X.nox cf m)(gf:ZQ C f=true)(df:f≠"__debug__") (lf:C.gl.lookup f=some (.fn i)) (ha:compA m C (a::args)=some es) (n:Iv.S):
  PE X (.Call (.Name f pf) (a::args) [] q1) (TXE T A X.K (exX T cf (d+1) (.cal n i es)) E):=by
 have hns:=Qo ha
 have st:starEach (a::args) X.env=(false,eval a X.env)::starEach args X.env:=Qk (hns a (List.mem_cons_self ..))
 have sa:(backTo q1 (starEach args X.env)).any (·.1)=false:=Zn fun z hz=>hns z (List.mem_cons_of_mem _ hz)
 intro pins s σ H Q I q
 obtain⟨α,ρ,hs0,c',h2,rs,R,e,q⟩:=q
 simp only [exX]at e
 obtain⟨us,hh1,e1,e⟩:=Qc e
 rw [Option.ite_none_right_eq_some]at e
 obtain⟨c3,ex'⟩:=e
 cases hF:T.fns[i]? with
 | none=>rw [hF]at c3;cases c3
 | some Fn =>
 rw [hF]at c3
 have c3:us.length=Fn.np:=of_decide_eq_true c3
 obtain⟨fd,G,bb,kp⟩:=F.xf i Fn hF
 refine wpAny_Call_Name_kw (Zw I (show Gl X f from Zc (X:=X.nox) g gf) (g.gfn f i lf) ?_ (Q3 df))
 have pa0:=Qjg (S.a d (a::args) es ha) q1 pins s σ H (fun vs H1=>∃α1,Ext α α1 H H1/\Rep T A X.K α1 hh1 H1/\RUs A α1 us vs) I ⟨α,ρ,hs0,us,hh1,rs,R,e1,fun α' vs H' E' R' r'=>⟨α',E',R',r'⟩⟩
 refine PySem.W.callWith_K (h₀:=X.base) I.ok.mod.kin kp (wpAny_mono pa0 (fun us1 s1 ⟨vs,H1,I1,r,α1,E1,R1,ru⟩=>⟨I1.kIn,?_⟩) fun _ _ z=>z) st sa
 have ll:us1.length=Fn.ps.length:=by
  obtain⟨fd',fn',_,_,lp,_⟩:=g.txt.fn i Fn hF
  rw [lp,<-c3,ru.length,r.length]
 have hsp:spX T A X.K T.xf i vs H1 (fun _ _=>False) (fun Cv o H'=>Cv=.ref (A.c c')/\EF T H' c' o/\∃α',Ext α1 α' H1 H'/\Rep T A X.K α' h2 H'):=
  ⟨α1,us,hh1,c',h2,ru,R1,ex',⟨Fn,hF,c3⟩,fun α' H' dd E' R' ef=>⟨rfl,ef,α',E',R'⟩⟩
 refine wpAny_call (codeAny_mono (G.run X.A X.stack s1 H1 ⟨us1,[]⟩ us1 vs _ _ hr I1.env0 (by have:=bb s1 us1 I1.kIn (by rw [List.append_nil];exact ll);rw [List.append_nil]at this;exact this) r hsp) fun rr s' hq=>?_)
 cases rr with
 | ok fl =>
  cases fl with
  | ret u =>
   obtain⟨_,_,_,_,_,_,_,z⟩:=hq
   exact z.elim
  | next=>exact False.elim hq
  | brk=>exact False.elim hq
  | cont=>exact False.elim hq
 | error ev =>
  obtain⟨e0,C0,H',B,a0,dd,rfl,J,flw,cv,hn,hs1,h00,da,⟨hC,ef,α2,E2,R2⟩⟩:=QiL I1 bX.ex (show CXw X.prog X.w X.stack H1 s1 (fun Cv o H'=>Cv=.ref (A.c c')/\EF T H' c' o/\∃α',Ext α1 α' H1 H'/\Rep T A X.K α' h2 H') ev s' from hq)
  cases hC
  exact hxf pins σ H1 H' s1 s' e0 B a0 c' dd I1 J flw cv hn h00 da (q α2 H' dd (E1.trans E2 R2.h) R2 ef)
theorem QjX{stt:Stmt}{t:Nat×List Expr}{d:Nat}{es:List Iv.E}{n:Iv.S}(hxf:Qg6 X A E)(bX:Bd X)(g:GX T A C X.nox)(fl:∀x,X.fn x=true\/X.env.scope.names.lookup x=some .local)(F:Fc X.nox T A cf k)(hr:Room k X.A)(S:Snd T A C X.nox cf m)(ht:QiY C stt=some t)(ha:compA m C t.2=some es):
  PS X stt (TX T A X.K (exX T cf (d+1) (.cal n t.1 es)) E):=by
 cases stt with
 | Assign ts e p =>
  change QkV C ts e=some t at ht
  unfold QkV at ht
  split at ht
  ·rename_i x hx
   obtain⟨px,rfl⟩:=QaF hx
   rw [Option.ite_none_right_eq_some]at ht
   obtain⟨hl,ht⟩:=ht
   rw [Bool.and_eq_true]at hl
   obtain⟨i,hi⟩:=Option.isSome_iff_exists.mp hl.2
   obtain⟨f,pf,a,args,q,rfl,h1,gf,df,lf⟩:=QaD ht
   rw [h1]at ha
   exact Zt (YL (i:=i) g.nd (by have:=g.N;rw [show X.N=X.nox.N from rfl,this];exact Zf hi) (YS (X:=X.nox) g hl.1) (Qcp hxf bX g F hr S gf df lf ha n) rfl (fl x)) fun D σ H z=>z
  ·cases ht
 | Return v p =>
  cases v with
  | none=>cases ht
  | some e =>
   obtain⟨f,pf,a,args,q,rfl,h1,gf,df,lf⟩:=QaD (show Qhb C e=some t from ht)
   rw [h1]at ha
   exact Zt (Qe7 (Qcp hxf bX g F hr S gf df lf ha n)) fun D σ H z=>z
 | Expr e p =>
  obtain⟨f,pf,a,args,q,rfl,h1,gf,df,lf⟩:=QaD (show Qhb C e=some t from ht)
  rw [h1]at ha
  exact Zt (Y8 (Qcp hxf bX g F hr S gf df lf ha n) rfl) fun D σ H z=>z
 | _=>exact nomatch (show none=some _ from ht)
theorem Qk1{tg it:Expr}{wi:L2.TI}(h:PI X.nox tg it wi):PI X tg it wi:=fun pins s σ H R I hw =>
 wpAny_mono (h pins s σ H R (I.wish _) hw) (fun v s1 z=>wpAny_mono z (fun itv s2 ⟨it,fp,tn,J,H2,e,I2,T,st,f2,r⟩=>⟨it,fp,tn,J,H2,e,I2.unwish,T,st,f2,r⟩) fun _ _ z=>False.elim z) fun _ _ z=>False.elim z
theorem Qk2{tg:Expr}{g:TG}(h:PG X.nox tg g):PG X tg g:=fun pins s σ H v u Q I r hw =>
 wpAny_mono (h pins s σ H v u Q (I.wish _) r hw) (fun _ s' ⟨σ',H',I',q⟩=>⟨σ',H',I'.unwish,q⟩) fun _ _ z=>False.elim z
theorem Qjd{st:List Stmt}{t:TS}(h:PSs X.nox st t):PSs X st t:=fun pins s σ H D I hw =>
 wpAny_mono (h pins s σ H D (I.wish _) hw) (fun _ _ q=>q.unwish) fun _ _ z=>False.elim z
theorem Qje{b:List Stmt}{t1 t2:TS}(h1:PSs X b t1)(h2:PSs X b t2):PSs X b (fun D σ H=>t1 D σ H\/t2 D σ H):=fun pins s σ H D I z=>z.elim (h1 pins s σ H D I) (h2 pins s σ H D I)
theorem QcZ{d:Nat}{body:List S}{w:Wk}{t:Tg}{J:It}{D:Ends}{α0:List Addr}{H0:Hp}{σ0:St}{ρ0:Rho}{h0 hs':Hs}{c n:Nat}(tx:Txt T A X.K X.mg)(rs0:RS A α0 ρ0 σ0)(R0:Rep T A X.K α0 h0 H0)(W0:WJ A X.K α0 J w)
  (e0:QgJ T w t (exs T cf d body) (exsX T cf d body) n 0 ρ0 h0=some (c,hs'))
  (q:∀α' H' dd,Ext α0 α' H0 H'->Rep T A X.K α' hs' H'->EF T H' c dd->E (.ref (A.c c)) dd H'):
  ∃W:Nat->Nat->St->Hp->Prop,(∃m,W 0 m σ0 H0)/\∀i m σ H,W i m σ H->(J.stop i H/\D.nx σ H)\/(J.go i H/\∃N:St->Hp->Prop,(∀σ' H',N σ' H'->∃m',m'<m/\W (i+1) m' σ' H') /\
   ∀x H',J.yld i H x H'->gT X.K t x σ H' fun σ2 H2=>TIS T A X.K (exs T cf d body) { D with nx:=N,ct:=N,bk:=D.nx } σ2 H2\/TX T A X.K (exsX T cf d body) E { D with nx:=N,ct:=N,bk:=D.nx } σ2 H2):=by
 refine⟨fun i m σ H=>∃α ρ hs,RS A α ρ σ/\Rep T A X.K α hs H/\Ext α0 α H0 H/\QgJ T w t (exs T cf d body) (exsX T cf d body) m i ρ hs=some (c,hs'),⟨n,α0,ρ0,h0,rs0,R0,Ext.refl,e0⟩,?_⟩
 rintro i m σ H ⟨α,ρ,hs,rs,R,E0,e⟩
 cases m with
 | zero=>cases e
 | succ m =>
  have W:=W0.mono E0.pre
  simp only [QgJ]at e
  split at e
  ·cases e
  ·cases e
  ·rename_i x ei
   split at e
   ·cases e
   ·rename_i ρ1 et
    obtain⟨go,yl⟩:=Qa8 tx R W rs ei et
    refine .inr ⟨go,fun σ' H'=>∃α ρ hs,RS A α ρ σ'/\Rep T A X.K α hs H'/\Ext α0 α H0 H'/\QgJ T w t (exs T cf d body) (exsX T cf d body) m (i+1) ρ hs=some (c,hs'),fun σ' H' z=>⟨m,Nat.lt_succ_self _,z⟩,?_⟩
    intro v H' hy
    refine yl v H' _ hy fun σ2 rs2 R2 E2=>?_
    have E02:Ext α0 α H0 H':=E0.trans E2 R2.h
    split at e
    ·rename_i ρ2 h2 eb
     exact .inl (TIS.run rs2 R2 eb fun α3 σ3 H3 E3 R3 rs3=>⟨α3,ρ2,h2,rs3,R3,E02.trans E3 R3.h,e⟩)
    ·rename_i ρ2 h2 eb
     exact .inl (TIS.run rs2 R2 eb fun α3 σ3 H3 E3 R3 rs3=>⟨α3,ρ2,h2,rs3,R3,E02.trans E3 R3.h,e⟩)
    ·cases e
    ·exact .inr (TX.run rs2 R2 e fun α3 H3 dd E3 R3 f3=>q α3 H3 dd (E02.trans E3 R3.h) R3 f3)
theorem Qk7(hxe:∀pins σ H s h' e vs c,Inv X pins σ H s->Heap.MadeExcOf s.heap h' e (.ref (A.c c)) vs->E (.ref (A.c c)) none H->X.xe (.ref e) { s with heap:=h' })(hxi:∀pins σ H s e oe vs a0 c,Inv X pins σ H s->H e=none->X.s₀.heap.get? e=none->e≠X.env.locals->s.heap.get? e=some oe->oe.cls=.ref (A.c c)->oe.data=.fields vs->vs[0]?=some a0->vs[1]?=some .none->E (.ref (A.c c)) oe.dict H->X.xe (.ref e) s)(hxf:Qg6 X A E)(hpo:PassesOwn (model X.prog X.w) X.A X.env X.xe)(bX:Bd X)(g:GX T A C X.nox)(fl:∀x,X.fn x=true\/X.env.scope.names.lookup x=some .local)(F:Fc X.nox T A cf k)(hr:Room (k+1) X.A)(hr3:Room 3 X.A):∀m,SndX T A C X cf E m
 | 0=>⟨fun d st ir h=>by first | exact nomatch (show(none:Option Iv.S)=some _ from h) | simp [Q9]at h,fun d sts irs h=>by exact nomatch (show(none:Option (List Iv.S))=some _ from h)⟩
 | m+1=>by
  have IH:=Qk7 hxe hxi hxf hpo bX g fl F hr hr3 m
  have N:Snd2 T A C X.nox cf m:=Qd1 m g F (fun _=>hr) hr.units
  have NS:SndS T A C X.nox cf m:=QjO (X:=X.nox) ⟨bX.stk,bX.frm,bX.ex,bX.cm⟩ g fl F hr m
  refine⟨fun d st ir h=>?_,fun d sts irs h=>?_⟩
  ·cases d with
   | zero=>exact ZM fun D σ H ⟨_,_,_,_,_,_,_,e,_⟩=>by cases e
   | succ d =>
   cases ir with
   | rse c es =>
    obtain⟨x,px,q,args,p,rfl,ha,g1,g2,g3,g4⟩:=Qdi h
    have cl:=g.gcl x c g3
    rw [g.CT]at g4
    have xk:=(g.txt.er c g4).2
    have en:(∀f,T.efl.contains (c,f)=false)->∀H,EF T H c none:=fun z H f q=>by rw [z f]at q;cases q
    have pa:=Qjg (N.s.a d args es ha)
    have ln:=Zh ha
    cases args with
    | nil =>
     have ee:es=[]:=by simpa using ln
     subst ee
     rcases xk with⟨nf,xk⟩ | ⟨f,x1,hf,uq,hx1,hh,hfi,fI,fd,ps,MI,bI,FI⟩
     case inr =>
      refine Zt (Qce (W:=fun dd H=>E (.ref (A.c c)) dd H) (E0:=fun _ _ _=>True) MI (FI _ _ _) hr3 bI rfl Qcs (show Gl X x from Zc (X:=X.nox) g g1) cl bX.cm bX.ex (fun pins σ H s e oe vs a0=>hxi pins σ H s e oe vs a0 c) (Q3 g2)) ?_
      rintro D σ H ⟨α,ρ,hs,c',hs',rs,R,e,q⟩
      simp only [exX,evs,bd]at e
      rw [Option.ite_none_right_eq_some]at e
      obtain⟨_,e⟩:=e
      cases e
      intro d od hd
      obtain⟨R',E'⟩:=R.side (ho:=.frz od (.xd [(x1,.non)])) hd
      refine q α _ (some d) E' R' fun f' hf'=>?_
      cases uq f' hf'
      exact⟨d,od,x1,rfl,hx1,Qe⟩
     refine Zt (Qcf (W:=fun H=>E (.ref (A.c c)) none H) xk (show Gl X x from Zc (X:=X.nox) g g1) cl bX.cm (fun pins σ H s h' e vs I mx w=>hxe pins σ H s h' e vs c I mx w) (Q3 g2)) ?_
     rintro D σ H ⟨α,ρ,hs,c',hs',rs,R,e,q⟩
     simp only [exX,evs,bd]at e
     rw [Option.ite_none_right_eq_some]at e
     obtain⟨_,e⟩:=e
     cases e
     exact q α H none Ext.refl R (en nf H)
    | cons a r =>
     rcases xk with⟨nf,xk⟩ | ⟨f,x1,hf,_⟩
     case inr =>
      refine ZM fun D σ H ⟨α,ρ,hs,c',hs',rs,R,e,q⟩=>?_
      simp only [exX]at e
      obtain⟨us,h1,e1,e⟩:=Qc e
      rw [Option.ite_none_right_eq_some]at e
      obtain⟨⟨_,_,z⟩,_⟩:=e
      have en:es.isEmpty=false:=by
       cases es with
       | nil=>simp at ln
       | cons _ _=>rfl
      have an:(T.efl.any fun p=>p.1==c)=true:=List.any_eq_true.mpr ⟨(c,f),by simpa using hf,by simp⟩
      rw [en,an]at z
      cases z
     refine Zt (Qeb (W:=fun H=>E (.ref (A.c c)) none H) xk (show Gl X x from Zc (X:=X.nox) g g1) cl bX.cm pa (fun pins σ H s h' e vs I mx w=>hxe pins σ H s h' e vs c I mx w) (Qk (Qo ha a (List.mem_cons_self ..))) (Zn fun z hz=>Qo ha z (List.mem_cons_of_mem _ hz)) (Q3 g2)) ?_
     rintro D σ H ⟨α,ρ,hs,c',hs',rs,R,e,q⟩
     simp only [exX]at e
     obtain⟨us,h1,e1,e⟩:=Qc e
     rw [Option.ite_none_right_eq_some]at e
     obtain⟨⟨_,lz,_⟩,e⟩:=e
     cases e
     refine TIA.run rs R e1 fun α1 vs H1 E1 R1 r1 rs1=>⟨?_,q α1 H1 none E1 R1 (en nf H1)⟩
     rw [<-r1.length,Yy e1]
     exact Nat.le_trans lz (by decide)
   | ite t a b =>
    obtain⟨t0,a0,b0,p,rfl,ht,ha,hb⟩:=Qdj h
    refine Zt (Qh0 (PT.nox (N.s.t d t0 t ht).1) (IH.ss d a0 a ha) (IH.ss d b0 b hb)) ?_
    rintro D σ H ⟨α,ρ,hs,c',hs',rs,R,e,q⟩
    simp only [exX]at e
    split at e
    ·rename_i h1 e1
     refine TIT.run rs R e1 fun α1 H1 E1 R1 rs1=>?_
     rw [if_pos rfl]
     exact TX.run rs1 R1 e fun α2 H2 dd E2 R2 f2=>q α2 H2 dd (E1.trans E2 R2.h) R2 f2
    ·rename_i h1 e1
     refine TIT.run rs R e1 fun α1 H1 E1 R1 rs1=>?_
     rw [if_neg Bool.false_ne_true]
     exact TX.run rs1 R1 e fun α2 H2 dd E2 R2 f2=>q α2 H2 dd (E1.trans E2 R2.h) R2 f2
    ·cases e
   | cal n f es=>exact(Qdk h).elim
   | loop t s b =>
    obtain⟨tg,it,a,p,rfl,ht,hi,ok,ha⟩:=QbF h
    refine Zt (QaS hpo bX.cm (Qk1 (N.w d it _ tg hi (Qe0 ht ok))) (Qk2 (Qjk (X:=X.nox) bX.cm g fl ht)) (Qje (Qjd (NS.ss d a b ha)) (IH.ss d a b ha)) (YO hi)) ?_
    rintro D σ H ⟨α,ρ,hs,c',hs',rs,R,e,q⟩
    simp only [exX]at e
    obtain⟨w,h1,e1,e⟩:=Qc e
    refine⟨α,ρ,hs,w,h1,rs,R,e1,fun α1 J H1 E1 R1 W1=>?_⟩
    exact QcZ g.txt (rs.mono E1.pre) R1 W1 e fun α2 H2 dd E2 R2 f2=>q α2 H2 dd (E1.trans E2 R2.h) R2 f2
   | _=>exact ZM fun D σ H ⟨_,_,_,_,_,_,_,e,_⟩=>by simp [exX]at e
  ·cases d with
   | zero=>exact Z4 fun D σ H ⟨_,_,_,_,_,_,_,e,_⟩=>by cases e
   | succ d =>
   cases sts with
   | nil =>
    cases h
    exact Z4 fun D σ H ⟨_,_,_,_,_,_,_,e,_⟩=>by simp [exsX]at e
   | cons st r =>
    simp only [compSs,Option.bind_eq_some_iff]at h
    obtain⟨s0,hs0,s',hs',r',hr',h⟩:=h
    cases h
    have IS:PS X st (TX T A X.K (exX T cf d s') E):=by
     unfold Qjs at hs'
     split at hs'
     ·rename_i t ht
      simp only [Option.map_eq_some_iff]at hs'
      obtain⟨es,ha,rfl⟩:=hs'
      cases d with
      | zero=>exact ZM fun D σ H ⟨_,_,_,_,_,_,_,e,_⟩=>by cases e
      | succ d=>exact QjX hxf bX g fl F (hr.mono (Nat.le_succ _)) N.s ht ha
     ·cases hs'
      exact IH.s d st s0 hs0
    intro pins s σ H D I z
    obtain⟨α,ρ,hs,c',hs2,rs,R,e,q⟩:=z
    simp only [exsX]at e
    split at e
    ·rename_i ρ1 h1 e1
     refine ZT (Qk0 (Qfw hs' (fun d=>NS.s d st s0 hs0) d)) (IH.ss d r r' hr') pins s σ H D I ?_
     exact TIS.run rs R e1 fun α1 σ1 H1 E1 R1 rs1=>TX.run (D:=D) rs1 R1 e fun α2 H2 dd E2 R2 f2=>q α2 H2 dd (E1.trans E2 R2.h) R2 f2
    ·cases e
    ·refine ZT IS (Z4 (t:=fun _ _ _=>False) fun _ _ _ z=>z) pins s σ H D I ?_
     exact TX.run (D:=D) rs R e q
end
section
variable {P:Program}{w:World}{K:PySem.W.Frag}{mg:Str->Option Value}{base:Heap}{T:Tbl}{A:Adr}{gl:List (Str×G)}{bl:List Str}
theorem QgL{rm:Nat}(tp:Top T A K mg gl bl)(tab:Jo P w T A K)(hb:YE T gl bl)(hX:XOk P w K mg base T A rm)(m f:Nat)(F:Fn)(hF:T.fns[f]?=some F):∃fd,FnOk P w K mg base (CXw P w) (rm+2+2*m) (A.f f) fd F.ps (spX T A K (Zz T m) f)/\Binds K fd F.ps []/\PySem.W.keepIn K (.ref (A.f f))=true:=by
 obtain⟨fd,fn,b,sc,lp,lN⟩:=tp.txt.fn f F hF
 refine⟨fd,?_,b,fn.kp⟩
 cases m with
 | zero =>
  have no:∀vs H Q E,¬spX T A K (Zz T 0) f vs H Q E:=fun vs H Q E h=>by
   obtain⟨α,us,hs,u,hs',_,_,e,_⟩:=h
   cases e
  exact⟨fun vs H Q E h=>absurd h (no vs H Q E),fun A outer s H args us vs Q E _ _ _ _ h=>absurd h (no vs H Q E)⟩
 | succ n =>
  obtain⟨oc,od,dV,kV,doc,pm,an,cdv,ct,osl,rfl,lk,hcd⟩:=fn.ex
  obtain⟨m,hm⟩:=hb f F hF
  refine QgK (k:=rm+2+2*n+1) lk hcd sc (fun vs H Q E h=>?_) (fun A' outer s H vs Q E hr h=>?_)
  ·obtain⟨α,us,hs,u,hs',r,_,_,⟨F',h1,h2⟩,_⟩:=h
   rw [hF]at h1
   cases h1
   rw [<-r.length,h2,lp]
  ·obtain⟨α,us,hs,c,hs',r,R,e,_,q⟩:=h
   refine⟨TX T A K (exsX T (Qd T n) dd F.body) E,?_,?_⟩
   ·have gx:GX T A ⟨T,F.N,(Qa F.st).names,gl,bl,F.lc⟩ (QbK (CXw P w) P w K mg base F.N F.qual (Qa F.st) (A.f f) cdv A' outer s H E).nox :=
     ⟨rfl,rfl,sc.nd,rfl,fun _=>rfl,sc.kind,rfl,tp.gfn,tp.gcl,tp.gco,tp.gtx,tp.blt,tp.txt,tab⟩
    have fc:Fc (QbK (CXw P w) P w K mg base F.N F.qual (Qa F.st) (A.f f) cdv A' outer s H E).nox T A (Qd T n) (rm+2*n):=⟨fun f' F' h'=>by
     obtain⟨fd',G,b',kp,_⟩:=JO tp tab hb hX n f' F' h'
     exact⟨fd',G,b',kp⟩,Y1,fun i D F' hD h'=>by
     obtain⟨fd',G,_,kp,fn'⟩:=JO tp tab hb hX n i F' h'
     obtain⟨fd2,x,q,st,fn2,dk,hp⟩:=tp.txt.df i D hD
     have e:=FunD.same fn2 fn'
     subst e
     rw [(hp F' h').1]at G
     exact⟨fd2,G,kp,dk⟩,fun f' F' h'=>by
     obtain⟨fd',G,b',kp⟩:=hX f' F' h'
     exact⟨fd',G.mono (Nat.le_add_right _ _),b',kp⟩⟩
    refine(Qk7 (X:=QbK (CXw P w) P w K mg base F.N F.qual (Qa F.st) (A.f f) cdv A' outer s H E) (fun pins σ H1 s1 h' e vs c I mx w=>?_) (fun pins σ H1 s1 e oe vs a0 c I hn h0 hl he hc hd v0 v1 w=>?_) (fun pins σ H1 H2 s1 s2 e B a0 c dd I J fl cv hn h0 da w=>?_) ?_ ⟨rfl,rfl,rfl,rfl⟩ gx (fun _=>.inl rfl) fc (hr.mono (by lia)) (hr.mono (by lia)) m).ss dd (Qg F.st) F.body hm
    ·exact Qbw (L:=_) rfl rfl rfl I mx w
    ·exact Yw (L:=_) rfl rfl rfl I hn h0 hl he hc hd v0 v1 w
    ·exact QcH (L:=_) rfl rfl rfl J fl (cv.up I rfl) hn h0 da w
    ·exact PassesOwn.leaving
   ·simp only [Zz,hF]at e
    split at e
    case isFalse=>cases e
    exact TX.run (Y6 r lN) R e q
theorem QlA{T':Tbl}{H:Hp}{c:Nat}{dd:Option Addr}(h1:T'.fns'=T.fns')(h5:T'.efl=T.efl)(h:EF T H c dd):EF T' H c dd:=fun f q=>by
 rw [h5]at q
 rw [h1]
 exact h f q
theorem QhQ{T':Tbl}{α:List Addr}{hs:Hs}{H:Hp}(h1:T'.fns'=T.fns')(h2:T'.cls=T.cls)(h3:T'.scr=T.scr)(h4:T'.ers=T.ers)(h5:T'.efl=T.efl)(R:Rep T A K α hs H):Rep T' A K α hs H:=by
 refine⟨⟨R.h.len,R.h.nd,fun n a o e1 e2=>?_⟩,?_⟩
 ·have z:=R.h.ob n a o e1 e2
  cases o with
  | ins c fs =>
   obtain⟨dx,fv,q1,q2,q3⟩:=z
   refine⟨dx,fv,q1,?_,by rw [h2];exact q3⟩
   unfold RF at *
   rw [h1]
   exact q2
  | err c =>
   obtain⟨dd,q1,q2,q3⟩:=z
   exact⟨dd,q1,by rw [h4];exact q2,QlA h1 h5 q3⟩
  | _=>exact z
 ·obtain⟨vs,q1,q2⟩:=R.s
  exact⟨vs,by rw [h3];exact q1,q2⟩
theorem QlI{rm m:Nat}{T':Tbl}(hf:T'.fns=T.fns)(h1:T'.fns'=T.fns')(h2:T'.cls=T.cls)(h3:T'.scr=T.scr)(h4:T'.ers=T.ers)(h5:T'.efl=T.efl)(hx:T'.xf=Zz T m)(tp:Top T A K mg gl bl)(tab:Jo P w T A K)(hb:YE T gl bl)(hX:XOk P w K mg base T A rm):
  XOk P w K mg base T' A (rm+2+2*m):=fun f F hF=>by
 rw [hf]at hF
 obtain⟨fd,G,b,kp⟩:=QgL tp tab hb hX m f F hF
 refine⟨fd,G.imp fun vs H Q E h=>?_,b,kp⟩
 obtain⟨α,us,hs,c,hs',r,R,e,⟨F',e1,e2⟩,q⟩:=h
 refine⟨α,us,hs,c,hs',r,QhQ h1.symm h2.symm h3.symm h4.symm h5.symm R,by rw [<-hx];exact e,⟨F',by rw [<-hf];exact e1,e2⟩,fun α' H' dd E' R' f'=>q α' H' dd E' (QhQ h1 h2 h3 h4 h5 R') (QlA h1 h5 f')⟩
theorem QjD{x:Nat->List U->Hs->Option (Nat×Hs)}(tp:Top T A K mg gl bl):Top { T with xf:=x } A K mg gl bl :=
 ⟨⟨tp.txt.fn,tp.txt.df,fun i C e=>let c:=tp.txt.cl i C e;⟨c.cls,c.nf,c.me,c.mks,c.kp,c.ini,c.ty⟩,tp.txt.fm,tp.txt.fd,tp.txt.isi,tp.txt.co,tp.txt.er,tp.txt.es⟩,tp.gfn,tp.gcl,tp.gco,tp.gtx,tp.blt⟩
end
end Iv
namespace K06
open PySem Iv L2
noncomputable def top(i:Nat):Stmt:=PySem.Challenge.pw_stitchroom_k06_sums.main.body.getD i (.Pass ⟨0,0,0,0⟩)
noncomputable def fldN:List Str:=["row"]
noncomputable def mthN:List Str:=[]
noncomputable def glo:List (Str×G):=([("total",.fn 0),("product",.fn 1),("repeated",.fn 2),("worth",.fn 3),("is_sized",.fn 4),("_law_cell_at",.fn 5),("_law_whole",.fn 6),("_law_sum_by",.fn 7),("_law_worth",.fn 8),("_law_sum_told",.fn 9),("_law_sized",.fn 10),("_law_refused",.fn 11),("_law_product",.fn 12),("_law_time",.fn 13),("law",.fn 14),("StitchError",.cls 0),("NoStitch",.cls 1),("NoSum",.cls 2),("NoPattern",.cls 3),("TooMany",.cls 4)]:List (Str×G))++([("Miscount",.cls 5),("Tangle",.cls 6)]:List (Str×G))
noncomputable def Qju:List Str:=["len","int","tuple","list","bool","isinstance","range","zip","sum","any","ValueError"]
noncomputable def QlC:List Co:=[]
noncomputable def Qmq:List Cl:=[]
noncomputable def Qmb:List ((Ty×Ty)×Bool):=[((.cls 2,.cls 1),false),((.cls 2,.cls 2),true),((.cls 2,.cls 3),false),((.cls 2,.cls 4),false),((.cls 2,.cls 5),false),((.cls 2,.cls 6),false),((.cls 2,.vale),true)]
noncomputable abbrev st0:Stmt:=top 9
noncomputable def N0:List Str:=["one","other"]
noncomputable abbrev st1:Stmt:=top 10
noncomputable def N1:List Str:=["one","other"]
noncomputable abbrev st2:Stmt:=top 11
noncomputable def N2:List Str:=["one","often"]
noncomputable abbrev st3:Stmt:=top 12
noncomputable def N3:List Str:=["one","choice"]
noncomputable abbrev st4:Stmt:=top 13
noncomputable def N4:List Str:=["one"]
noncomputable abbrev st5:Stmt:=top 15
noncomputable def N5:List Str:=["_law_script","_law_k"]
noncomputable abbrev st6:Stmt:=top 16
noncomputable def N6:List Str:=["_law_found"]
noncomputable abbrev st7:Stmt:=top 17
noncomputable def N7:List Str:=["_law_cells","_law_most","_law_sizeless"]
noncomputable abbrev st8:Stmt:=top 18
noncomputable def N8:List Str:=["_law_one","_law_choice","_law_found","_law_k"]
noncomputable abbrev st9:Stmt:=top 19
noncomputable def N9:List Str:=["_law_found","_law_number"]
noncomputable abbrev QdI:Stmt:=top 20
noncomputable def N10:List Str:=["_law_one"]
noncomputable abbrev QdH:Stmt:=top 21
noncomputable def N11:List Str:=["_law_one","_law_other","_law_told","e"]
noncomputable abbrev QdG:Stmt:=top 22
noncomputable def N12:List Str:=["_law_one","_law_other","_law_due","_law_choice","_law_found"]
noncomputable abbrev QdF:Stmt:=top 23
noncomputable def N13:List Str:=["_law_cells","_law_kind","_law_most","_law_one","_law_other","_law_choice","_law_values","_law_each","_law_value","_law_told","_law_both"]
noncomputable abbrev QbX:Stmt:=top 24
noncomputable def N14:List Str:=["_law_script","_law_cells","_law_k","_law_part"]
noncomputable abbrev Qg7:Stmt:=QgD (top 3) 0
noncomputable def Qmm:List (Nat×Df):=[]
noncomputable def Qmj:List Str:=[]
noncomputable def QlH:List Str:=[]
noncomputable def Qmi:List Nat:=[2]
noncomputable def Qmh:List (Nat×Nat):=[(2,2),(2,0)]
noncomputable def Ql7:List Nat:=[]
noncomputable def Qlz:List (Nat×Nat):=[(2,0)]
noncomputable def b0:List S:=[(.ret (.bi .tuple [(.comp (.zip (.var 0) (.var 1)) true none (.op .Add (.var 2) (.var 3)))]))]
noncomputable def b1:List S:=[(.ite (.not (.call 4 [(.var 0)])) [(.ret (.call 2 [(.var 1),(.ix (.var 0) (.c (.int 0 0)))]))] []),(.ite (.not (.call 4 [(.var 1)])) [(.ret (.call 2 [(.var 0),(.ix (.var 1) (.c (.int 0 0)))]))] []),(.rse 2 [])]
noncomputable def b2:List S:=[(.ret (.bi .tuple [(.comp (.seq (.var 0)) false none (.op .Mult (.var 2) (.var 1)))]))]
noncomputable def b3:List S:=[(.ret (.op .Add (.ix (.var 0) (.c (.int 0 0))) (.bi .sum [(.comp (.zip (.sl (.var 0) (some (.c (.int 1 0))) none) (.var 1)) true none (.op .Mult (.var 2) (.var 3)))])))]
noncomputable def b4:List S:=[(.ret (.bi .any [(.comp (.seq (.sl (.var 0) (some (.c (.int 1 0))) none)) false none (.cmp .NotEq (.var 1) (.c (.int 0 0))))]))]
noncomputable def b5:List S:=[(.ite (.cmp .Lt (.var 1) (.bi .len [(.var 0)])) [(.ret (.ix (.var 0) (.var 1)))] []),(.ret (.c (.int 0 0)))]
noncomputable def b6:List S:=[(.ret (.and (.isi (.var 0) .int) (.not (.isi (.var 0) .bool))))]
noncomputable def b7:List S:=[(.ite (.var 2) [(.ret (.tup [(.op .Mod (.ix (.var 0) (.c (.int 0 0))) (.var 1)),(.c (.int 0 0)),(.c (.int 0 0)),(.c (.int 0 0)),(.c (.int 0 0))]))] []),(.ret (.bi .tuple [(.comp (.seq (.var 0)) false none (.op .Mod (.var 3) (.var 1)))]))]
noncomputable def b8:List S:=[(.set 2 (.ix (.var 0) (.c (.int 0 0)))),(.loop (.name 3) (.rng (.c (.int 4 0))) [(.set 2 (.op .Add (.var 2) (.op .Mult (.ix (.var 0) (.op .Add (.var 3) (.c (.int 1 0)))) (.ix (.var 1) (.var 3)))))]),(.ret (.var 2))]
noncomputable def b9:List S:=[(.ite (.or (.not (.isi (.var 0) .tuple)) (.cmp .NotEq (.bi .len [(.var 0)]) (.c (.int 5 0)))) [(.ret (.c (.bl false)))] []),(.loop (.name 1) (.seq (.var 0)) [(.ite (.or (.not (.call 6 [(.var 1)])) (.cmp .Lt (.var 1) (.c (.int 0 0)))) [(.ret (.c (.bl false)))] [])]),(.ret (.c (.bl true)))]
noncomputable def b10:List S:=[(.ret (.cmp .Gt (.op .Add (.op .Add (.op .Add (.ix (.var 0) (.c (.int 1 0))) (.ix (.var 0) (.c (.int 2 0)))) (.ix (.var 0) (.c (.int 3 0)))) (.ix (.var 0) (.c (.int 4 0)))) (.c (.int 0 0))))]
noncomputable def b11:List S:=[(.set 2 (.c .non)),(.tryS (some 3) 1 [(.var 0),(.var 1)] 0 [(.set 2 (.var 3))]),(.ite (.or (.not (.isi (.var 2) (.cls 2))) (.or (.not (.isi (.var 2) .vale)) (.cmp .IsNot (.fld (.var 2) 0) (.c .non)))) [(.ret (.c (.bl false)))] []),(.ite (.or (.isi (.var 2) (.cls 3)) (.or (.isi (.var 2) (.cls 1)) (.isi (.var 2) (.cls 6)))) [(.ret (.c (.bl false)))] []),(.ret (.and (.not (.isi (.var 2) (.cls 5))) (.not (.isi (.var 2) (.cls 4)))))]
noncomputable def b12:List S:=[(.ite (.and (.call 10 [(.var 0)]) (.call 10 [(.var 1)])) [(.ret (.call 11 [(.var 0),(.var 1)]))] []),(.set 4 (.call 1 [(.var 0),(.var 1)])),(.ite (.or (.not (.call 9 [(.var 4)])) (.cmp .NotEq (.call 1 [(.var 1),(.var 0)]) (.var 4))) [(.ret (.c (.bl false)))] []),(.ret (.cmp .Eq (.call 8 [(.var 4),(.var 3)]) (.var 2)))]
noncomputable def b13:List S:=[(.set 2 (.ix (.lst [(.op .Pow (.c (.int 10 0)) (.c (.int 60 0))),(.c (.int 5 0)),(.c (.int 5 0)),(.c (.int 5 0))]) (.op .Mod (.var 1) (.c (.int 4 0))))),(.set 3 (.call 7 [(.sl (.var 0) none (some (.c (.int 5 0)))),(.var 2),(.or (.cmp .Eq (.op .Mod (.op .FloorDiv (.var 1) (.c (.int 4 0))) (.c (.int 4 0))) (.c (.int 1 0))) (.cmp .Eq (.op .Mod (.op .FloorDiv (.var 1) (.c (.int 4 0))) (.c (.int 4 0))) (.c (.int 2 0))))])),(.set 4 (.call 7 [(.sl (.var 0) (some (.c (.int 5 0))) (some (.c (.int 10 0)))),(.var 2),(.or (.cmp .Eq (.op .Mod (.op .FloorDiv (.var 1) (.c (.int 4 0))) (.c (.int 4 0))) (.c (.int 2 0))) (.cmp .Eq (.op .Mod (.op .FloorDiv (.var 1) (.c (.int 4 0))) (.c (.int 4 0))) (.c (.int 3 0))))])),(.set 5 (.comp (.seq (.sl (.var 0) (some (.c (.int 10 0))) (some (.c (.int 14 0))))) false none (.op .Mod (.var 11) (.var 2)))),(.set 6 (.lst [])),(.loop (.name 7) (.seq (.lst [(.var 3),(.var 4)])) [(.set 8 (.call 3 [(.var 7),(.bi .list [(.var 5)])])),(.ite (.or (.not (.call 6 [(.var 8)])) (.cmp .NotEq (.var 8) (.call 8 [(.var 7),(.var 5)]))) [(.ret (.c (.bl false)))] []),(.set 9 (.call 4 [(.var 7)])),(.ite (.or (.not (.isi (.var 9) .bool)) (.cmp .NotEq (.var 9) (.call 10 [(.var 7)]))) [(.ret (.c (.bl false)))] []),(.expr (.bm .append (.var 6) [(.var 8)]))]),(.set 10 (.call 0 [(.var 3),(.var 4)])),(.ite (.or (.not (.call 9 [(.var 10)])) (.cmp .NotEq (.call 8 [(.var 10),(.var 5)]) (.op .Add (.ix (.var 6) (.c (.int 0 0))) (.ix (.var 6) (.c (.int 1 0)))))) [(.ret (.c (.bl false)))] []),(.ite (.cmp .NotEq (.comp (.rng (.c (.int 5 0))) false none (.op .Sub (.ix (.var 10) (.var 11)) (.ix (.var 3) (.var 11)))) (.bi .list [(.var 4)])) [(.ret (.c (.bl false)))] []),(.ret (.call 12 [(.var 3),(.var 4),(.op .Mult (.ix (.var 6) (.c (.int 0 0))) (.ix (.var 6) (.c (.int 1 0)))),(.var 5)]))]
noncomputable def b14:List S:=[(.set 1 (.sl (.var 0) none (some (.c (.int 84 0))))),(.loop (.name 2) (.rngA [(.c (.int 0 0)),(.op .Add (.bi .len [(.var 1)]) (.c (.int 1 0))),(.c (.int 14 0))]) [(.set 3 (.comp (.rng (.c (.int 14 0))) false none (.call 5 [(.var 1),(.op .Add (.var 2) (.var 4))]))),(.ite (.not (.call 13 [(.var 3),(.op .Add (.op .FloorDiv (.op .Mod (.bi .sum [(.var 3)]) (.op .Pow (.c (.int 10 0)) (.c (.int 9 0)))) (.c (.int 3 0))) (.var 2))])) [(.ret (.c (.bl false)))] [])]),(.ret (.c (.bl true)))]
noncomputable def fnL:List Fn:=[⟨"total","total",st0,["one","other"],N0,2,2,false,b0⟩,
 ⟨"product","product",st1,["one","other"],N1,2,2,false,b1⟩,
 ⟨"repeated","repeated",st2,["one","often"],N2,2,2,false,b2⟩,
 ⟨"worth","worth",st3,["one","choice"],N3,2,2,false,b3⟩,
 ⟨"is_sized","is_sized",st4,["one"],N4,1,1,false,b4⟩,
 ⟨"_law_cell_at","_law_cell_at",st5,["_law_script","_law_k"],N5,2,2,false,b5⟩,
 ⟨"_law_whole","_law_whole",st6,["_law_found"],N6,1,1,false,b6⟩,
 ⟨"_law_sum_by","_law_sum_by",st7,["_law_cells","_law_most","_law_sizeless"],N7,3,3,false,b7⟩,
 ⟨"_law_worth","_law_worth",st8,["_law_one","_law_choice"],N8,2,4,false,b8⟩,
 ⟨"_law_sum_told","_law_sum_told",st9,["_law_found"],N9,1,2,false,b9⟩,
 ⟨"_law_sized","_law_sized",QdI,["_law_one"],N10,1,1,false,b10⟩,
 ⟨"_law_refused","_law_refused",QdH,["_law_one","_law_other"],N11,2,4,false,b11⟩,
 ⟨"_law_product","_law_product",QdG,["_law_one","_law_other","_law_due","_law_choice"],N12,4,5,false,b12⟩,
 ⟨"_law_time","_law_time",QdF,["_law_cells","_law_kind"],N13,2,11,false,b13⟩,
 ⟨"law","law",QbX,["_law_script"],N14,1,4,true,b14⟩]
noncomputable def tbX(s:List U):Tbl:=⟨fnL,Qmq,QlC,fldN,mthN,s,Qmb,Qmm,Qmj,QlH,false,Qmi,Qmh,Ql7,Qlz,fun _ _ _=>none⟩
noncomputable def tb(s:List U):Tbl:={ tbX s with xf:=Zz (tbX s) 3 }
noncomputable abbrev so(x:String):Str:=Str.ofString x
noncomputable abbrev rf(a:Addr):Value:=.ref a
noncomputable abbrev sv(x:String)(n:Nat):Value:=.str (Str.ofString x) n
noncomputable abbrev dk(P:Params)(x:String)(n:Nat)(v:Value):DictEntry:=DictEntry.mk (PyData.keyHash P (Str.ofString x)) (.str (Str.ofString x) n) v
noncomputable abbrev tu(xs:Array Value)(n:Nat):Obj:=Obj.mk (.type "tuple") none (Data.seq xs n) #[]
noncomputable abbrev ob(c:String)(d:Data):Obj:=Obj.mk (.type c) none d #[]
noncomputable abbrev en(P:Params)(x:Str)(k v:Value):DictEntry:=DictEntry.mk (PyData.keyHash P x) k v
noncomputable abbrev de(P:Params)(x:Str)(n:Nat)(v:Value):DictEntry:=DictEntry.mk (PyData.keyHash P x) (.str x n) v
noncomputable abbrev hp:Program:=PySem.Challenge.pw_stitchroom_k06_sums
noncomputable abbrev hr:W.RowW:=(PySem.Challenge.rw_stitchroom_k06_sums).row.toRowW
noncomputable def hB:Iv.BootT:=⟨fun P=>(.node (W.boot_o_0 P) (.node (W.boot_o_1 P) (.node (W.boot_o_3 P) (.node (W.boot_o_7 P) .nil .nil) .nil) (.node (W.boot_o_5 P) (.node (W.boot_o_9 P) .nil .nil) .nil)) (.node (W.boot_o_2 P) (.node (W.boot_o_4 P) (.node (W.boot_o_8 P) .nil .nil) .nil) (.node (W.boot_o_6 P) (.node (W.boot_o_10 P) .nil .nil) .nil))),11,{}⟩
noncomputable def hq:Program:=W.view hp [1,2,3,4,5,6,7,9,10,11,12,13,15,16,17,18,19,20,21,22,23,24]
noncomputable abbrev hlo:List Str:=["NoSum"]
noncomputable def K:Params->W.Frag:=fun P =>
 (nat_lit 2,(Obj.mk .none none (Data.dict #[] 0) #[]))::
 (nat_lit 3,(ob "dict" (Data.dict #[(dk P "__name__" 165 (sv "law_stitchroom_k06_sums" 372)),(dk P "__doc__" 166 .none),(dk P "__package__" 167 .none),(dk P "__loader__" 168 (.builtin "__main__.__loader__#opaque")),(dk P "__spec__" 169 .none),(dk P "__annotations__" 170 (rf 6)),(dk P "__builtins__" 171 (rf 4)),(dk P "__file__" 173 (sv "/claim/cut.py" 172)),(dk P "__cached__" 174 .none),(dk P "StitchError" 206 (rf 24)),(dk P "NoStitch" 222 (rf 37)),(dk P "NoSum" 247 (rf 57)),(dk P "NoPattern" 263 (rf 69)),(dk P "TooMany" 279 (rf 81)),(dk P "Miscount" 312 (rf 100)),(dk P "Tangle" 337 (rf 119)),(dk P "total" 345 (rf 126)),(dk P "product" 353 (rf 133)),(dk P "repeated" 359 (rf 138)),(dk P "worth" 365 (rf 143)),(dk P "is_sized" 371 (rf 148)),(dk P "_law_cell_at" 381 (rf 155)),(dk P "_law_whole" 388 (rf 162)),(dk P "_law_sum_by" 394 (rf 167)),(dk P "_law_worth" 404 (rf 174)),(dk P "_law_sum_told" 412 (rf 181)),(dk P "_law_sized" 419 (rf 188)),(dk P "_law_refused" 429 (rf 195)),(dk P "_law_product" 440 (rf 202)),(dk P "_law_time" 446 (rf 207)),(dk P "law" 452 (rf 212))] 31)))::
 (nat_lit 23,(ob "dict" (Data.dict #[(dk P "__module__" 196 (sv "stitchroom.errors" 187)),(dk P "__firstlineno__" 200 (.int 2 199)),(dk P "__static_attributes__" 201 (rf 22)),(dk P "__weakref__" 203 (rf 25)),(dk P "__doc__" 204 .none)] 3)))::
 (nat_lit 24,(Obj.mk (.type "type") none (Data.cls (ClassData.mk (so "StitchError") [(.type "ValueError")] [(rf 24),(.type "ValueError"),(.type "Exception"),(.type "BaseException"),(.type "object")] 23 (so "StitchError") Bool.true [] [(rf 37),(rf 57),(rf 69),(rf 81),(rf 100),(rf 119)] Bool.false none Bool.false)) #[(some (rf 15)),none,(some (sv "StitchError" 189)),(some (sv "StitchError" 197)),(some (.builtin "ValueError.__new__")),(some (.bool Bool.true))]))::
 (nat_lit 25,(ob "getset_descriptor" (Data.fields #[(sv "__weakref__" 202),(rf 24),(.builtin "ExceptionGroup.__weakref__"),.none])))::
 (nat_lit 36,(ob "dict" (Data.dict #[(dk P "__module__" 214 (sv "stitchroom.errors" 187)),(dk P "__firstlineno__" 218 (.int 4 217)),(dk P "__static_attributes__" 219 (rf 35)),(dk P "__doc__" 220 .none)] 2)))::
 (nat_lit 37,(Obj.mk (.type "type") none (Data.cls (ClassData.mk (so "NoStitch") [(rf 24)] [(rf 37),(rf 24),(.type "ValueError"),(.type "Exception"),(.type "BaseException"),(.type "object")] 36 (so "NoStitch") Bool.true [] [] Bool.false none Bool.false)) #[(some (rf 28)),none,(some (sv "NoStitch" 207)),(some (sv "NoStitch" 215)),(some (.builtin "ValueError.__new__")),(some (.bool Bool.true))]))::
 (nat_lit 47,(tu #[.none] 0))::
 (nat_lit 53,(ob "code" (Data.fields #[(sv "__init__" 235),(sv "NoSum.__init__" 236),(sv "/claim/cut.py" 237),(.int 8 0),(.int 2 0),(.int 0 0),(.int 0 0),(.int 3 0),(rf 48),(.bool Bool.true),(.int 181 0),(rf 49),.none,(rf 50),(rf 51),(rf 52),(.int 240 0),(.int 8 0),(sv "/claim/cut.py" 241)])))::
 (nat_lit 54,⟨(.type "function"),none,.func (W.fnOf (so "__init__") (so "NoSum.__init__") (Qh Qg7) (Qg Qg7) (Qa Qg7) (rf 47) .none .none (sv "stitchroom.errors" 187) none (rf 53) .none),#[]⟩)::
 (nat_lit 56,(ob "dict" (Data.dict #[(dk P "__module__" 230 (sv "stitchroom.errors" 187)),(dk P "__firstlineno__" 234 (.int 6 233)),(dk P "__init__" 242 (rf 54)),(dk P "__static_attributes__" 244 (rf 55)),(dk P "__doc__" 245 .none)] 2)))::
 (nat_lit 57,(Obj.mk (.type "type") none (Data.cls (ClassData.mk (so "NoSum") [(rf 24)] [(rf 57),(rf 24),(.type "ValueError"),(.type "Exception"),(.type "BaseException"),(.type "object")] 56 (so "NoSum") Bool.true [] [] Bool.false none Bool.false)) #[(some (rf 40)),none,(some (sv "NoSum" 223)),(some (sv "NoSum" 231)),(some (.builtin "ValueError.__new__")),(some (.bool Bool.true))]))::
 (nat_lit 68,(ob "dict" (Data.dict #[(dk P "__module__" 255 (sv "stitchroom.errors" 187)),(dk P "__firstlineno__" 259 (.int 11 258)),(dk P "__static_attributes__" 260 (rf 67)),(dk P "__doc__" 261 .none)] 2)))::
 (nat_lit 69,(Obj.mk (.type "type") none (Data.cls (ClassData.mk (so "NoPattern") [(rf 24)] [(rf 69),(rf 24),(.type "ValueError"),(.type "Exception"),(.type "BaseException"),(.type "object")] 68 (so "NoPattern") Bool.true [] [] Bool.false none Bool.false)) #[(some (rf 60)),none,(some (sv "NoPattern" 248)),(some (sv "NoPattern" 256)),(some (.builtin "ValueError.__new__")),(some (.bool Bool.true))]))::
 (nat_lit 80,(ob "dict" (Data.dict #[(dk P "__module__" 271 (sv "stitchroom.errors" 187)),(dk P "__firstlineno__" 275 (.int 13 274)),(dk P "__static_attributes__" 276 (rf 79)),(dk P "__doc__" 277 .none)] 2)))::
 (nat_lit 81,(Obj.mk (.type "type") none (Data.cls (ClassData.mk (so "TooMany") [(rf 24)] [(rf 81),(rf 24),(.type "ValueError"),(.type "Exception"),(.type "BaseException"),(.type "object")] 80 (so "TooMany") Bool.true [] [] Bool.false none Bool.false)) #[(some (rf 72)),none,(some (sv "TooMany" 264)),(some (sv "TooMany" 272)),(some (.builtin "ValueError.__new__")),(some (.bool Bool.true))]))::
 (nat_lit 99,(ob "dict" (Data.dict #[(dk P "__module__" 287 (sv "stitchroom.errors" 187)),(dk P "__firstlineno__" 291 (.int 15 290)),(dk P "__init__" 303 (rf 97)),(dk P "__static_attributes__" 309 (rf 98)),(dk P "__doc__" 310 .none)] 2)))::
 (nat_lit 100,(Obj.mk (.type "type") none (Data.cls (ClassData.mk (so "Miscount") [(rf 24)] [(rf 100),(rf 24),(.type "ValueError"),(.type "Exception"),(.type "BaseException"),(.type "object")] 99 (so "Miscount") Bool.true [] [] Bool.false none Bool.false)) #[(some (rf 84)),none,(some (sv "Miscount" 280)),(some (sv "Miscount" 288)),(some (.builtin "ValueError.__new__")),(some (.bool Bool.true))]))::
 (nat_lit 118,(ob "dict" (Data.dict #[(dk P "__module__" 320 (sv "stitchroom.errors" 187)),(dk P "__firstlineno__" 324 (.int 24 323)),(dk P "__init__" 332 (rf 116)),(dk P "__static_attributes__" 334 (rf 117)),(dk P "__doc__" 335 .none)] 2)))::
 (nat_lit 119,(Obj.mk (.type "type") none (Data.cls (ClassData.mk (so "Tangle") [(rf 24)] [(rf 119),(rf 24),(.type "ValueError"),(.type "Exception"),(.type "BaseException"),(.type "object")] 118 (so "Tangle") Bool.true [] [] Bool.false none Bool.false)) #[(some (rf 103)),none,(some (sv "Tangle" 313)),(some (sv "Tangle" 321)),(some (.builtin "ValueError.__new__")),(some (.bool Bool.true))]))::
 (nat_lit 125,(ob "code" (Data.fields #[(sv "total" 340),(sv "total" 341),(sv "/claim/cut.py" 342),(.int 30 0),(.int 2 0),(.int 0 0),(.int 0 0),(.int 3 0),(rf 122),(.bool Bool.true),(.int 181 0),(rf 123),.none,.none,.none,(rf 124),(.int 343 0),(.int 30 0),(sv "/claim/cut.py" 344)])))::
 (nat_lit 126,⟨(.type "function"),none,.func (W.fnOf (so "total") (so "total") (Qh st0) (Qg st0) (Qa st0) .none .none .none (sv "stitchroom.sums" 338) none (rf 125) .none),#[]⟩)::
 (nat_lit 132,(ob "code" (Data.fields #[(sv "product" 346),(sv "product" 347),(sv "/claim/cut.py" 348),(.int 32 0),(.int 2 0),(.int 0 0),(.int 0 0),(.int 3 0),(rf 127),(.bool Bool.true),(.int 181 0),(rf 128),.none,(rf 129),(rf 130),(rf 131),(.int 351 0),(.int 32 0),(sv "/claim/cut.py" 352)])))::
 (nat_lit 133,⟨(.type "function"),none,.func (W.fnOf (so "product") (so "product") (Qh st1) (Qg st1) (Qa st1) .none .none .none (sv "stitchroom.sums" 338) none (rf 132) .none),#[]⟩)::
 (nat_lit 137,(ob "code" (Data.fields #[(sv "repeated" 354),(sv "repeated" 355),(sv "/claim/cut.py" 356),(.int 38 0),(.int 2 0),(.int 0 0),(.int 0 0),(.int 3 0),(rf 134),(.bool Bool.true),(.int 181 0),(rf 135),.none,.none,.none,(rf 136),(.int 357 0),(.int 38 0),(sv "/claim/cut.py" 358)])))::
 (nat_lit 138,⟨(.type "function"),none,.func (W.fnOf (so "repeated") (so "repeated") (Qh st2) (Qg st2) (Qa st2) .none .none .none (sv "stitchroom.sums" 338) none (rf 137) .none),#[]⟩)::
 (nat_lit 142,(ob "code" (Data.fields #[(sv "worth" 360),(sv "worth" 361),(sv "/claim/cut.py" 362),(.int 40 0),(.int 2 0),(.int 0 0),(.int 0 0),(.int 3 0),(rf 139),(.bool Bool.true),(.int 181 0),(rf 140),.none,.none,.none,(rf 141),(.int 363 0),(.int 40 0),(sv "/claim/cut.py" 364)])))::
 (nat_lit 143,⟨(.type "function"),none,.func (W.fnOf (so "worth") (so "worth") (Qh st3) (Qg st3) (Qa st3) .none .none .none (sv "stitchroom.sums" 338) none (rf 142) .none),#[]⟩)::
 (nat_lit 147,(ob "code" (Data.fields #[(sv "is_sized" 366),(sv "is_sized" 367),(sv "/claim/cut.py" 368),(.int 42 0),(.int 1 0),(.int 0 0),(.int 0 0),(.int 3 0),(rf 144),(.bool Bool.true),(.int 181 0),(rf 145),.none,.none,.none,(rf 146),(.int 369 0),(.int 42 0),(sv "/claim/cut.py" 370)])))::
 (nat_lit 148,⟨(.type "function"),none,.func (W.fnOf (so "is_sized") (so "is_sized") (Qh st4) (Qg st4) (Qa st4) .none .none .none (sv "stitchroom.sums" 338) none (rf 147) .none),#[]⟩)::
 (nat_lit 154,(ob "code" (Data.fields #[(sv "_law_cell_at" 374),(sv "_law_cell_at" 375),(sv "/claim/cut.py" 376),(.int 45 0),(.int 2 0),(.int 0 0),(.int 0 0),(.int 3 0),(rf 149),(.bool Bool.true),(.int 181 0),(rf 150),.none,(rf 151),(rf 152),(rf 153),(.int 379 0),(.int 45 0),(sv "/claim/cut.py" 380)])))::
 (nat_lit 155,⟨(.type "function"),none,.func (W.fnOf (so "_law_cell_at") (so "_law_cell_at") (Qh st5) (Qg st5) (Qa st5) .none .none .none (sv "law_stitchroom_k06_sums" 372) none (rf 154) .none),#[]⟩)::
 (nat_lit 161,(ob "code" (Data.fields #[(sv "_law_whole" 382),(sv "_law_whole" 383),(sv "/claim/cut.py" 384),(.int 49 0),(.int 1 0),(.int 0 0),(.int 0 0),(.int 3 0),(rf 156),(.bool Bool.true),(.int 181 0),(rf 157),.none,(rf 158),(rf 159),(rf 160),(.int 386 0),(.int 49 0),(sv "/claim/cut.py" 387)])))::
 (nat_lit 162,⟨(.type "function"),none,.func (W.fnOf (so "_law_whole") (so "_law_whole") (Qh st6) (Qg st6) (Qa st6) .none .none .none (sv "law_stitchroom_k06_sums" 372) none (rf 161) .none),#[]⟩)::
 (nat_lit 166,(ob "code" (Data.fields #[(sv "_law_sum_by" 389),(sv "_law_sum_by" 390),(sv "/claim/cut.py" 391),(.int 51 0),(.int 3 0),(.int 0 0),(.int 0 0),(.int 3 0),(rf 163),(.bool Bool.true),(.int 181 0),(rf 164),.none,.none,.none,(rf 165),(.int 392 0),(.int 51 0),(sv "/claim/cut.py" 393)])))::
 (nat_lit 167,⟨(.type "function"),none,.func (W.fnOf (so "_law_sum_by") (so "_law_sum_by") (Qh st7) (Qg st7) (Qa st7) .none .none .none (sv "law_stitchroom_k06_sums" 372) none (rf 166) .none),#[]⟩)::
 (nat_lit 173,(ob "code" (Data.fields #[(sv "_law_worth" 395),(sv "_law_worth" 396),(sv "/claim/cut.py" 397),(.int 55 0),(.int 2 0),(.int 0 0),(.int 0 0),(.int 3 0),(rf 168),(.bool Bool.true),(.int 181 0),(rf 169),.none,(rf 170),(rf 171),(rf 172),(.int 402 0),(.int 55 0),(sv "/claim/cut.py" 403)])))::
 (nat_lit 174,⟨(.type "function"),none,.func (W.fnOf (so "_law_worth") (so "_law_worth") (Qh st8) (Qg st8) (Qa st8) .none .none .none (sv "law_stitchroom_k06_sums" 372) none (rf 173) .none),#[]⟩)::
 (nat_lit 180,(ob "code" (Data.fields #[(sv "_law_sum_told" 405),(sv "_law_sum_told" 406),(sv "/claim/cut.py" 407),(.int 60 0),(.int 1 0),(.int 0 0),(.int 0 0),(.int 3 0),(rf 175),(.bool Bool.true),(.int 181 0),(rf 176),.none,(rf 177),(rf 178),(rf 179),(.int 410 0),(.int 60 0),(sv "/claim/cut.py" 411)])))::
 (nat_lit 181,⟨(.type "function"),none,.func (W.fnOf (so "_law_sum_told") (so "_law_sum_told") (Qh st9) (Qg st9) (Qa st9) .none .none .none (sv "law_stitchroom_k06_sums" 372) none (rf 180) .none),#[]⟩)::
 (nat_lit 187,(ob "code" (Data.fields #[(sv "_law_sized" 413),(sv "_law_sized" 414),(sv "/claim/cut.py" 415),(.int 67 0),(.int 1 0),(.int 0 0),(.int 0 0),(.int 3 0),(rf 182),(.bool Bool.true),(.int 181 0),(rf 183),.none,(rf 184),(rf 185),(rf 186),(.int 417 0),(.int 67 0),(sv "/claim/cut.py" 418)])))::
 (nat_lit 188,⟨(.type "function"),none,.func (W.fnOf (so "_law_sized") (so "_law_sized") (Qh QdI) (Qg QdI) (Qa QdI) .none .none .none (sv "law_stitchroom_k06_sums" 372) none (rf 187) .none),#[]⟩)::
 (nat_lit 194,(ob "code" (Data.fields #[(sv "_law_refused" 420),(sv "_law_refused" 421),(sv "/claim/cut.py" 422),(.int 69 0),(.int 2 0),(.int 0 0),(.int 0 0),(.int 3 0),(rf 189),(.bool Bool.true),(.int 181 0),(rf 190),.none,(rf 191),(rf 192),(rf 193),(.int 427 0),(.int 69 0),(sv "/claim/cut.py" 428)])))::
 (nat_lit 195,⟨(.type "function"),none,.func (W.fnOf (so "_law_refused") (so "_law_refused") (Qh QdH) (Qg QdH) (Qa QdH) .none .none .none (sv "law_stitchroom_k06_sums" 372) none (rf 194) .none),#[]⟩)::
 (nat_lit 201,(ob "code" (Data.fields #[(sv "_law_product" 430),(sv "_law_product" 431),(sv "/claim/cut.py" 432),(.int 80 0),(.int 4 0),(.int 0 0),(.int 0 0),(.int 3 0),(rf 196),(.bool Bool.true),(.int 181 0),(rf 197),.none,(rf 198),(rf 199),(rf 200),(.int 438 0),(.int 80 0),(sv "/claim/cut.py" 439)])))::
 (nat_lit 202,⟨(.type "function"),none,.func (W.fnOf (so "_law_product") (so "_law_product") (Qh QdG) (Qg QdG) (Qa QdG) .none .none .none (sv "law_stitchroom_k06_sums" 372) none (rf 201) .none),#[]⟩)::
 (nat_lit 206,(ob "code" (Data.fields #[(sv "_law_time" 441),(sv "_law_time" 442),(sv "/claim/cut.py" 443),(.int 87 0),(.int 2 0),(.int 0 0),(.int 0 0),(.int 3 0),(rf 203),(.bool Bool.true),(.int 181 0),(rf 204),.none,.none,.none,(rf 205),(.int 444 0),(.int 87 0),(sv "/claim/cut.py" 445)])))::
 (nat_lit 207,⟨(.type "function"),none,.func (W.fnOf (so "_law_time") (so "_law_time") (Qh QdF) (Qg QdF) (Qa QdF) .none .none .none (sv "law_stitchroom_k06_sums" 372) none (rf 206) .none),#[]⟩)::
 (nat_lit 211,(ob "code" (Data.fields #[(sv "law" 447),(sv "law" 448),(sv "/claim/cut.py" 449),(.int 107 0),(.int 1 0),(.int 0 0),(.int 0 0),(.int 3 0),(rf 208),(.bool Bool.true),(.int 181 0),(rf 209),.none,.none,.none,(rf 210),(.int 450 0),(.int 107 0),(sv "/claim/cut.py" 451)])))::
 (nat_lit 212,⟨(.type "function"),none,.func (W.fnOf (so "law") (so "law") (Qh QbX) (Qg QbX) (Qa QbX) .none .none .none (sv "law_stitchroom_k06_sums" 372) none (rf 211) .none),#[]⟩)::[]
noncomputable def KA:List Addr:=[2,3,23,24,25,36,37,47,53,54,56,57,68,69,80,81,99,100,118,119,125,126,132,133,137,138,142,143,147,148,154,155,161,162,166,167,173,174,180,181,187,188,194,195,201,202,206,207,211,212]
theorem hKA:∀P,KA=(K P).map (·.1):=fun _=>by kernel_rfl
noncomputable abbrev hXt:Shared->Bool:=fun s=>W.xlAt hq [] s&&W.recOk (W.RowW.records hr) s
theorem hop:W.opening hp=W.plainProg hp.main.scope.names:=by kernel_rfl
theorem hfm:∀s,PySem.fenceModules? hp s=some s:=fun s=>by kernel_rfl
theorem hbo:∀w:World,W.absHeap (hB.t w.params) hB.n hB.life=W.boot_heap w.params:=fun w=>by kernel_rfl
theorem hsz:∀w:World,((W.boot_heap w.params).isNs mainGlobals,(W.boot_heap w.params).objs.size,(W.boot_heap w.params).nsMap mainGlobals "__annotations__")=(true,11,some (.ref 6)):=fun w=>by kernel_rfl
noncomputable abbrev hYf:Shared->List (Option Obj):=fun s=>KA.map s.heap.get?
noncomputable abbrev hYa:World->List (Option Obj):=fun w=>(K w.params).map fun p=>some p.2
noncomputable abbrev hN:Nat:=4172
noncomputable abbrev hn6:Option Value:=some (.ref 6)
noncomputable abbrev hS(w:World):Prop:=Iv.RunT hp hq hlo hXt hYf hYa 4172 true hB 11 (some (.ref 6)) w
theorem Qme(w:World):hS w:=fun os=>by kernel_rfl
theorem hleft:W.LeftO hp hq hlo hXt hYf hYa 4172 true:=Iv.left_tree hop (by decide) hfm hbo hsz Qme
noncomputable def tbG(x:Nat->List U->Hs->Option (Nat×Hs))(s:List U):Tbl:={ tbX s with xf:=x }
theorem eq_int{T:Tbl}{i j:Int}{hs:Hs}:eqA T (.int i 0) (.int j 0) hs=some (decide (i=j)):=rfl
theorem at0{hs:Hs}{a:O}{r:Hs}:(hs++a::r)[hs.length]?=some a:=by rw [List.getElem?_append_right (Nat.le_refl _),Nat.sub_self];rfl
theorem at1{hs:Hs}{a b:O}{r:Hs}:(hs++a::b::r)[hs.length+1]?=some b:=by rw [List.getElem?_append_right (Nat.le_add_right _ _),Nat.add_sub_cancel_left];rfl
theorem QcM{hs:Hs}{r:Hs}{p:Nat}{o:O}(h:hs[p]?=some o):(hs++r)[p]?=some o:=by
 rw [List.getElem?_append_left (List.getElem?_eq_some_iff.mp h).1];exact h
noncomputable def Kp(hs hs':Hs):Prop:=∀(p:Nat) o,hs[p]?=some o->hs'[p]?=some o
theorem Kp.app(hs r:Hs):Kp hs (hs++r):=fun _ _ h=>QcM h
theorem Kp.trans{a b c:Hs}(h:Kp a b)(h':Kp b c):Kp a c:=fun p o e=>h' p o (h p o e)
structure Sm where
 a:Int
 b:Int
 c:Int
 d:Int
 e:Int
noncomputable def Sm.us(m:Sm):List U:=[.int m.a 0,.int m.b 0,.int m.c 0,.int m.d 0,.int m.e 0]
structure Sm.Le(m:Sm)(t:Int):Prop where
 a:0<=m.a/\m.a<t
 b:0<=m.b/\m.b<t
 c:0<=m.c/\m.c<t
 d:0<=m.d/\m.d<t
 e:0<=m.e/\m.e<t
structure Ch where
 a:Int
 b:Int
 c:Int
 d:Int
noncomputable def Ch.us(x:Ch):List U:=[.int x.a 0,.int x.b 0,.int x.c 0,.int x.d 0]
structure Ch.Le(x:Ch)(t:Int):Prop where
 a:0<=x.a/\x.a<t
 b:0<=x.b/\x.b<t
 c:0<=x.c/\x.c<t
 d:0<=x.d/\x.d<t
noncomputable def wr(m:Sm)(x:Ch):Int:=m.a+m.b*x.a+m.c*x.b+m.d*x.c+m.e*x.d
theorem big{i:Int}(h:0<=i/\i<10 ^ 200):Jn i=true:=by
 unfold Jn
 have:i.natAbs<10 ^ 200:=by lia
 exact decide_eq_true (Nat.lt_of_lt_of_le (Nat.lt_trans this (show 10 ^ 200<2 ^ 1000 by decide)) (Nat.pow_le_pow_right (by decide) (by decide)))
theorem Zk{i j:Int}(h:Jn i=true)(h':Jn j=true):Qiv (.int i 0) (.int j 0)=some (.int (i*j) 0):=by
 simp [Qiv,h,h']
theorem Sm.Le.mono{m:Sm}{b c:Int}(h:m.Le b)(l:b<=c):m.Le c:=⟨⟨h.a.1,Int.lt_of_lt_of_le h.a.2 l⟩,⟨h.b.1,Int.lt_of_lt_of_le h.b.2 l⟩,⟨h.c.1,Int.lt_of_lt_of_le h.c.2 l⟩,⟨h.d.1,Int.lt_of_lt_of_le h.d.2 l⟩,⟨h.e.1,Int.lt_of_lt_of_le h.e.2 l⟩⟩
theorem Ch.Le.mono{m:Ch}{b c:Int}(h:m.Le b)(l:b<=c):m.Le c:=⟨⟨h.a.1,Int.lt_of_lt_of_le h.a.2 l⟩,⟨h.b.1,Int.lt_of_lt_of_le h.b.2 l⟩,⟨h.c.1,Int.lt_of_lt_of_le h.c.2 l⟩,⟨h.d.1,Int.lt_of_lt_of_le h.d.2 l⟩⟩
section
variable {xx:Nat->List U->Hs->Option (Nat×Hs)}{s:List U}{n p q:Nat}{hs:Hs}{m m':Sm}{x:Ch}
theorem Qdr{i:Int}:Qd (tbG xx s) (n+1) 6 [.int i 0] hs=some (.bl true,hs):=by
 rw [Q2 fnL[6] rfl rfl]
 rfl
theorem Jl(hm:m.Le (10 ^ 200))(hx:x.Le (10 ^ 200))(hp:hs[p]?=some (.tup m.us))(hq:hs[q]?=some (.lst x.us)):Qd (tbG xx s) (n+1) 8 [.ref p,.ref q] hs=some (.int (wr m x) 0,hs):=by
 rw [Q2 fnL[8] rfl rfl]
 show fin (exs (tbG xx s) (Qd (tbG xx s) n) 100 b8 [some (.ref p),some (.ref q),none,none] hs)=_
 have m1:=Zk (big hm.b) (big hx.a)
 have m2:=Zk (big hm.c) (big hx.b)
 have m3:=Zk (big hm.d) (big hx.c)
 have m4:=Zk (big hm.e) (big hx.d)
 have s4:Ql 16=true:=by decide
 generalize Qd (tbG xx s) n=cf
 generalize tbG xx s=T
 simp [b8,Zs,QQ,Qm,Qq,QJ,QK,QT,Qn,QN,y_c,QW,QI,ZE,QR,QX,QP,QV,QM,QS,ZH,ZD,Qp,ZF,QU,ZI,Qs,Qr,Qi,QZ,ZG,QY,QL,QO,Qu,Qx,Q0,Qw,Qt,Qv,Qj,evs,evO,Za,QE,Zm,eq_int,Zg,Zi,opU,ZA,biU,biL,slU,fin,s4,Qaa,itm,tgt,hp,hq,Sm.us,Ch.us,atU,ixU,m1,m2,m3,m4,gz,wr]
theorem QgT(hm:m.Le (10 ^ 200))(hx:x.Le (10 ^ 200))(hp:hs[p]?=some (.tup m.us))(hq:hs[q]?=some (.lst x.us)):∃z,Qd (tbG xx s) (n+1) 3 [.ref p,.ref q] hs=some (.int (wr m x) 0,hs++z):=by
 rw [Q2 fnL[3] rfl rfl]
 show ∃z,fin (exs (tbG xx s) (Qd (tbG xx s) n) 100 b3 [some (.ref p),some (.ref q)] hs)=_
 have m1:=Zk (big hm.b) (big hx.a)
 have m2:=Zk (big hm.c) (big hx.b)
 have m3:=Zk (big hm.d) (big hx.c)
 have m4:=Zk (big hm.e) (big hx.d)
 have ct:YF m.us (some 1) none=[.int m.b 0,.int m.c 0,.int m.d 0,.int m.e 0]:=rfl
 have ci:¬(Yi m.us.length 0 (some 1)=0/\Yi m.us.length m.us.length none=m.us.length):=by simp [Yi,Sm.us]
 have hq':∀z,(hs++z)[q]?=some (.lst x.us):=fun z=>QcM hq
 refine⟨[.tup [.int m.b 0,.int m.c 0,.int m.d 0,.int m.e 0],.lst [.int (m.b*x.a) 0,.int (m.c*x.b) 0,.int (m.d*x.c) 0,.int (m.e*x.d) 0]],?_⟩
 generalize Qd (tbG xx s) n=cf
 generalize tbG xx s=T
 have ei:atU m.us 0=some (.int m.a 0):=rfl
 simp [b3,Zs,QQ,Qm,Qq,QJ,QK,QT,Qn,QN,y_c,QW,QI,ZE,QR,QX,QP,QV,QM,QS,ZH,ZD,Qp,ZF,QU,ZI,Qs,Qr,Qi,QZ,ZG,QY,QL,QO,Qu,Qx,Q0,Qw,Qt,Qv,Qj,evs,evO,Za,QE,Zm,eq_int,Zg,Zi,opU,ZA,biU,biL,slU,fin,hp,ei,ct,ci,wkZ,sqU,Zb,Yb,hq',at0,at1,Zy,itm,two,tgt,tgN,Qbq,YI,Ch.us,m1,m2,m3,m4,YG,gz,wr,Int.add_assoc]
noncomputable def Sm.sz(m:Sm):Bool:=decide (m.b≠0)||(decide (m.c≠0)||(decide (m.d≠0)||decide (m.e≠0)))
theorem Qdt(hp:hs[p]?=some (.tup m.us)):∃z,Qd (tbG xx s) (n+1) 4 [.ref p] hs=some (.bl m.sz,hs++z):=by
 rw [Q2 fnL[4] rfl rfl]
 show ∃z,fin (exs (tbG xx s) (Qd (tbG xx s) n) 100 b4 [some (.ref p)] hs)=_
 have ct:YF m.us (some 1) none=[.int m.b 0,.int m.c 0,.int m.d 0,.int m.e 0]:=rfl
 have ci:¬(Yi m.us.length 0 (some 1)=0/\Yi m.us.length m.us.length none=m.us.length):=by simp [Yi,Sm.us]
 refine⟨[.tup [.int m.b 0,.int m.c 0,.int m.d 0,.int m.e 0],.lst [.bl (!decide (m.b=0)),.bl (!decide (m.c=0)),.bl (!decide (m.d=0)),.bl (!decide (m.e=0))]],?_⟩
 generalize Qd (tbG xx s) n=cf
 generalize tbG xx s=T
 simp [b4,Zs,QQ,Qm,Qq,QJ,QK,QT,Qn,QN,y_c,QW,QI,ZE,QR,QX,QP,QV,QM,QS,ZH,ZD,Qp,ZF,QU,ZI,Qs,Qr,Qi,QZ,ZG,QY,QL,QO,Qu,Qx,Q0,Qw,Qt,Qv,Qj,evs,evO,Za,QE,Zm,eq_int,Zg,Zi,opU,ZA,biU,biL,slU,fin,hp,ct,ci,wkS,Zb,Yb,at0,at1,Zy,itm,tgt,tgN,Qbq,YI,Y2,Sm.sz]
theorem Jm(hp:hs[p]?=some (.tup m.us))(h:m.Le (10 ^ 200)):Qd (tbG xx s) (n+1) 10 [.ref p] hs=some (.bl m.sz,hs):=by
 rw [Q2 fnL[10] rfl rfl]
 show fin (exs (tbG xx s) (Qd (tbG xx s) n) 100 b10 [some (.ref p)] hs)=_
 generalize Qd (tbG xx s) n=cf
 generalize tbG xx s=T
 have ez:m.sz=decide (0<m.b+m.c+m.d+m.e):=by
  have h1:=h.b.1
  have h2:=h.c.1
  have h3:=h.d.1
  have h4:=h.e.1
  rw [Sm.sz,<-Bool.decide_or,<-Bool.decide_or,<-Bool.decide_or]
  exact decide_eq_decide.mpr (by lia)
 simp [b10,Zs,QQ,Qm,Qq,QJ,QK,QT,Qn,QN,y_c,QW,QI,ZE,QR,QX,QP,QV,QM,QS,ZH,ZD,Qp,ZF,QU,ZI,Qs,Qr,Qi,QZ,ZG,QY,QL,QO,Qu,Qx,Q0,Qw,Qt,Qv,Qj,evs,evO,Za,QE,Zm,eq_int,Zg,Zi,opU,ZA,biU,biL,slU,fin,hp,Sm.us,atU,ixU,gz,ez]
theorem Qfx(hp:hs[p]?=some (.tup m.us))(h:m.Le (10 ^ 200)):Qd (tbG xx s) (n+2) 9 [.ref p] hs=some (.bl true,hs):=by
 rw [Q2 fnL[9] rfl rfl]
 show fin (exs (tbG xx s) (Qd (tbG xx s) (n+1)) 100 b9 [some (.ref p),none] hs)=_
 have w:∀i,Qd (tbG xx s) (n+1) 6 [.int i 0] hs=some (.bl true,hs):=fun i=>Qdr
 have h0:¬m.a<0:=by have:=h.a.1;lia
 have h1:¬m.b<0:=by have:=h.b.1;lia
 have h2:¬m.c<0:=by have:=h.c.1;lia
 have h3:¬m.d<0:=by have:=h.d.1;lia
 have h4:¬m.e<0:=by have:=h.e.1;lia
 generalize Qd (tbG xx s) (n+1)=cf at w ⊢
 generalize tbG xx s=T
 simp [b9,Zs,QQ,Qm,Qq,QJ,QK,QT,Qn,QN,y_c,QW,QI,ZE,QR,QX,QP,QV,QM,QS,ZH,ZD,Qp,ZF,QU,ZI,Qs,Qr,Qi,QZ,ZG,QY,QL,QO,Qu,Qx,Q0,Qw,Qt,Qv,Qj,evs,evO,Za,QE,Zm,eq_int,Zg,Zi,opU,ZA,biU,biL,slU,fin,Qaa,itm,tgt,hp,Sm.us,Qfk,Qap,Qg9,Z5,Zb,Yb,wkS,w,h0,h1,h2,h3,h4]
end
noncomputable def Sm.add(m m':Sm):Sm:=⟨m.a+m'.a,m.b+m'.b,m.c+m'.c,m.d+m'.d,m.e+m'.e⟩
noncomputable def Sm.mul(m:Sm)(k:Int):Sm:=⟨m.a*k,m.b*k,m.c*k,m.d*k,m.e*k⟩
noncomputable def pr(m m':Sm):Sm:=if m.sz=true then m.mul m'.a else m'.mul m.a
theorem ZU{a k t u:Int}(ha:0<=a/\a<t)(hk:0<=k/\k<u):0<=a*k/\a*k<t*u:=by
 refine⟨Int.mul_nonneg ha.1 hk.1,Int.lt_of_le_of_lt (Int.mul_le_mul_of_nonneg_right (Int.le_of_lt ha.2) hk.1) (Int.mul_lt_mul_of_pos_left hk.2 (by lia))⟩
theorem Sm.mul_le{m:Sm}{k t u:Int}(h:m.Le t)(hk:0<=k/\k<u):(m.mul k).Le (t*u):=⟨ZU h.a hk,ZU h.b hk,ZU h.c hk,ZU h.d hk,ZU h.e hk⟩
theorem Qkd{m m':Sm}{t:Int}(h:m.Le t)(h':m'.Le t):(pr m m').Le (t*t):=by
 unfold pr
 split
 ·exact Sm.mul_le h h'.a
 ·exact Sm.mul_le h' h.a
theorem Qeq{m:Sm}(h:m.sz=false):m.b=0/\m.c=0/\m.d=0/\m.e=0:=by
 simpa [Sm.sz]using h
theorem Qf3{m m':Sm}(h:¬(m.sz=true/\m'.sz=true)):pr m' m=pr m m':=by
 unfold pr
 cases e:m.sz with
 | true =>
  cases e':m'.sz with
  | true=>exact absurd ⟨e,e'⟩ h
  | false=>rfl
 | false =>
  cases e':m'.sz with
  | true=>rfl
  | false =>
   obtain⟨b1,b2,b3,b4⟩:=Qeq e
   obtain⟨c1,c2,c3,c4⟩:=Qeq e'
   simp [Sm.mul,b1,b2,b3,b4,c1,c2,c3,c4,Int.mul_comm]
theorem QeW{m:Sm}{k:Int}{x:Ch}:wr (m.mul k) x=wr m x*k:=by
 simp only [wr,Sm.mul,Int.add_mul,Int.mul_right_comm _ k]
theorem QjC{m m':Sm}{x:Ch}(h:¬(m.sz=true/\m'.sz=true)):wr (pr m m') x=wr m x*wr m' x:=by
 unfold pr
 cases e:m.sz with
 | true =>
  cases e':m'.sz with
  | true=>exact absurd ⟨e,e'⟩ h
  | false =>
   obtain⟨c1,c2,c3,c4⟩:=Qeq e'
   rw [if_pos rfl,QeW]
   simp [wr,c1,c2,c3,c4]
 | false =>
  obtain⟨c1,c2,c3,c4⟩:=Qeq e
  rw [if_neg Bool.false_ne_true,QeW,Int.mul_comm]
  simp [wr,c1,c2,c3,c4]
theorem Qhg{m m':Sm}{x:Ch}:wr (m.add m') x=wr m x+wr m' x:=by
 simp only [wr,Sm.add,Int.add_mul]
 lia
section
variable {xx:Nat->List U->Hs->Option (Nat×Hs)}{s:List U}{n p q:Nat}{hs:Hs}{m m':Sm}{x:Ch}
theorem Je(hp:hs[p]?=some (.tup m.us)):∃h1,Kp hs h1/\Qd (tbG xx s) (n+1) 4 [.ref p] hs=some (.bl m.sz,h1):=by
 obtain⟨z,e⟩:=Qdt (xx:=xx) (s:=s) (n:=n) hp
 exact⟨_,Kp.app _ _,e⟩
theorem QgU(hp:hs[p]?=some (.tup m.us))(hq:hs[q]?=some (.tup m'.us)):∃h1 r,Kp hs h1/\h1[r]?=some (.tup (m.add m').us)/\Qd (tbG xx s) (n+1) 0 [.ref p,.ref q] hs=some (.ref r,h1):=by
 rw [Q2 fnL[0] rfl rfl]
 show ∃h1 r,_/\_/\fin (exs (tbG xx s) (Qd (tbG xx s) n) 100 b0 [some (.ref p),some (.ref q)] hs)=_
 refine⟨hs++[.lst (m.add m').us,.tup (m.add m').us],hs.length+1,Kp.app _ _,at1,?_⟩
 generalize Qd (tbG xx s) n=cf
 generalize tbG xx s=T
 simp (maxSteps:=1000000) [b0,Zs,QQ,Qm,Qq,QJ,QK,QT,Qn,QN,y_c,QW,QI,ZE,QR,QX,QP,QV,QM,QS,ZH,ZD,Qp,ZF,QU,ZI,Qs,Qr,Qi,QZ,ZG,QY,QL,QO,Qu,Qx,Q0,Qw,Qt,Qv,Qj,evs,evO,Za,QE,Zm,eq_int,Zg,Zi,opU,ZA,biU,biL,slU,fin,wkZ,sqU,Zb,Yb,hp,hq,at0,Zy,itm,two,tgt,tgN,Qbq,YI,Sm.us,Sm.add,gz]
theorem Qi0{k:Int}(hp:hs[p]?=some (.tup m.us))(h:m.Le (10 ^ 200))(hk:0<=k/\k<10 ^ 200):∃h1 r,Kp hs h1/\h1[r]?=some (.tup (m.mul k).us)/\Qd (tbG xx s) (n+1) 2 [.ref p,.int k 0] hs=some (.ref r,h1):=by
 rw [Q2 fnL[2] rfl rfl]
 show ∃h1 r,_/\_/\fin (exs (tbG xx s) (Qd (tbG xx s) n) 100 b2 [some (.ref p),some (.int k 0)] hs)=_
 refine⟨hs++[.lst (m.mul k).us,.tup (m.mul k).us],hs.length+1,Kp.app _ _,at1,?_⟩
 have m0:=Zk (big h.a) (big hk)
 have m1:=Zk (big h.b) (big hk)
 have m2:=Zk (big h.c) (big hk)
 have m3:=Zk (big h.d) (big hk)
 have m4:=Zk (big h.e) (big hk)
 generalize Qd (tbG xx s) n=cf
 generalize tbG xx s=T
 simp [b2,Zs,QQ,Qm,Qq,QJ,QK,QT,Qn,QN,y_c,QW,QI,ZE,QR,QX,QP,QV,QM,QS,ZH,ZD,Qp,ZF,QU,ZI,Qs,Qr,Qi,QZ,ZG,QY,QL,QO,Qu,Qx,Q0,Qw,Qt,Qv,Qj,evs,evO,Za,QE,Zm,eq_int,Zg,Zi,opU,ZA,biU,biL,slU,fin,wkS,Zb,Yb,hp,at0,Zy,itm,tgt,tgN,Qbq,YI,Sm.us,Sm.mul,m0,m1,m2,m3,m4]
noncomputable def i1a:S:=.ite (.not (.call 4 [.var 0])) [.ret (.call 2 [.var 1,.ix (.var 0) (.c (.int 0 0))])] []
noncomputable def i1b:S:=.ite (.not (.call 4 [.var 1])) [.ret (.call 2 [.var 0,.ix (.var 1) (.c (.int 0 0))])] []
theorem QeQ:b1=[i1a,i1b,.rse 2 []]:=rfl
theorem us0{m:Sm}:atU m.us 0=some (.int m.a 0):=rfl
theorem QiR{T:Tbl}{cf:Cf}{d:Nat}{h1:Hs}{z:U}(e:cf 4 [.ref p] hs=some (.bl true,h1)):ex T cf (d+10) i1a [some (.ref p),some z] hs=some (.next,[some (.ref p),some z],h1):=by
 simp [i1a,Zs,QQ,Qm,Qq,QJ,QK,QT,Qn,QN,y_c,QW,QI,ZE,QR,QX,QP,QV,QM,QS,ZH,ZD,Qp,ZF,QU,ZI,Qs,Qr,Qi,QZ,ZG,QY,QL,QO,Qu,Qx,Q0,Qw,Qt,Qv,Qj,evs,evO,Za,QE,Zm,eq_int,Zg,Zi,opU,ZA,biU,biL,slU,fin,e]
theorem QkM{T:Tbl}{cf:Cf}{d:Nat}{h1:Hs}{z:U}(e:cf 4 [.ref q] hs=some (.bl true,h1)):ex T cf (d+10) i1b [some z,some (.ref q)] hs=some (.next,[some z,some (.ref q)],h1):=by
 simp [i1b,Zs,QQ,Qm,Qq,QJ,QK,QT,Qn,QN,y_c,QW,QI,ZE,QR,QX,QP,QV,QM,QS,ZH,ZD,Qp,ZF,QU,ZI,Qs,Qr,Qi,QZ,ZG,QY,QL,QO,Qu,Qx,Q0,Qw,Qt,Qv,Qj,evs,evO,Za,QE,Zm,eq_int,Zg,Zi,opU,ZA,biU,biL,slU,fin,e]
theorem Qfy(hp:hs[p]?=some (.tup m.us))(hq:hs[q]?=some (.tup m'.us))(h:m.Le (10 ^ 60))(h':m'.Le (10 ^ 60))(hz:¬(m.sz=true/\m'.sz=true)):∃h1 r,Kp hs h1/\h1[r]?=some (.tup (pr m m').us)/\Qd (tbG xx s) (n+2) 1 [.ref p,.ref q] hs=some (.ref r,h1):=by
 rw [Q2 fnL[1] rfl rfl]
 show ∃h1 r,_/\_/\fin (exs (tbG xx s) (Qd (tbG xx s) (n+1)) 100 b1 [some (.ref p),some (.ref q)] hs)=_
 obtain⟨hA,k1,e1⟩:=Je (xx:=xx) (s:=s) (n:=n) hp
 have w:(10:Int) ^ 60<=10 ^ 200:=by decide
 cases e:m.sz with
 | false =>
  rw [e]at e1
  obtain⟨h2,r,k2,g2,e2⟩:=Qi0 (xx:=xx) (s:=s) (n:=n) (k:=m.a) (k1 _ _ hq) (h'.mono w) (h.mono w).a
  refine⟨h2,r,k1.trans k2,by unfold pr;rw [e];exact g2,?_⟩
  have hp':=k1 _ _ hp
  generalize Qd (tbG xx s) (n+1)=cf at e1 e2 ⊢
  generalize tbG xx s=T
  rw [QeQ]
  simp [i1a,Zs,QQ,Qm,Qq,QJ,QK,QT,Qn,QN,y_c,QW,QI,ZE,QR,QX,QP,QV,QM,QS,ZH,ZD,Qp,ZF,QU,ZI,Qs,Qr,Qi,QZ,ZG,QY,QL,QO,Qu,Qx,Q0,Qw,Qt,Qv,Qj,evs,evO,Za,QE,Zm,eq_int,Zg,Zi,opU,ZA,biU,biL,slU,fin,e1,hp',us0,e2]
 | true =>
  rw [e]at e1
  obtain⟨hB,k2,e2⟩:=Je (xx:=xx) (s:=s) (n:=n) (k1 _ _ hq)
  have e':m'.sz=false:=by
   cases q:m'.sz with
   | false=>rfl
   | true=>exact absurd ⟨e,q⟩ hz
  rw [e']at e2
  obtain⟨h3,r,k3,g3,e3⟩:=Qi0 (xx:=xx) (s:=s) (n:=n) (k:=m'.a) (k2 _ _ (k1 _ _ hp)) (h.mono w) (h'.mono w).a
  refine⟨h3,r,(k1.trans k2).trans k3,by unfold pr;rw [e];exact g3,?_⟩
  have hq':=k2 _ _ (k1 _ _ hq)
  generalize Qd (tbG xx s) (n+1)=cf at e1 e2 e3 ⊢
  generalize tbG xx s=T
  rw [QeQ,Qm,QiR (d:=89) e1]
  simp [i1b,Zs,QQ,Qm,Qq,QJ,QK,QT,Qn,QN,y_c,QW,QI,ZE,QR,QX,QP,QV,QM,QS,ZH,ZD,Qp,ZF,QU,ZI,Qs,Qr,Qi,QZ,ZG,QY,QL,QO,Qu,Qx,Q0,Qw,Qt,Qv,Qj,evs,evO,Za,QE,Zm,eq_int,Zg,Zi,opU,ZA,biU,biL,slU,fin,e2,hq',us0,e3]
theorem QeU{T:Tbl}{cf:Cf}{d:Nat}{st:S}{r:List S}{ρ ρ1:Rho}{h0 h1:Hs}(h:ex T cf d st ρ h0=some (.next,ρ1,h1)):exsX T cf (d+1) (st::r) ρ h0=exsX T cf d r ρ1 h1:=by rw [exsX,h]
theorem QjA{T:Tbl}{cf:Cf}{d:Nat}{st:S}{r:List S}{ρ:Rho}{h0:Hs}(h:ex T cf d st ρ h0=none):exsX T cf (d+1) (st::r) ρ h0=exX T cf d st ρ h0:=by rw [exsX,h]
theorem QeV(hp:hs[p]?=some (.tup m.us))(hq:hs[q]?=some (.tup m'.us))(e:m.sz=true)(e':m'.sz=true):Qd (tbG xx s) (n+2) 1 [.ref p,.ref q] hs=none/\∃h2,Kp hs h2/\Zz (tbG xx s) (n+2) 1 [.ref p,.ref q] hs=some (2,h2):=by
 obtain⟨hA,k1,e1⟩:=Je (xx:=xx) (s:=s) (n:=n) hp
 obtain⟨hB,k2,e2⟩:=Je (xx:=xx) (s:=s) (n:=n) (k1 _ _ hq)
 rw [e]at e1
 rw [e']at e2
 have x1:=QiR (T:=tbG xx s) (d:=89) (z:=.ref q) e1
 have x2:=QkM (T:=tbG xx s) (d:=88) (z:=.ref p) e2
 have x3:ex (tbG xx s) (Qd (tbG xx s) (n+1)) 97 (.rse 2 []) [some (.ref p),some (.ref q)] hB=none:=rfl
 simp only [Nat.reduceAdd]at x1 x2
 constructor
 ·rw [Q2 fnL[1] rfl rfl]
  show fin (exs (tbG xx s) (Qd (tbG xx s) (n+1)) 100 b1 [some (.ref p),some (.ref q)] hs)=none
  rw [QeQ,Qm,x1]
  show fin (exs (tbG xx s) (Qd (tbG xx s) (n+1)) 99 [i1b,.rse 2 []] _ _)=none
  rw [Qm,x2]
  show fin (exs (tbG xx s) (Qd (tbG xx s) (n+1)) 98 [.rse 2 []] _ _)=none
  rw [Qm,x3]
  rfl
 ·refine⟨hB,k1.trans k2,?_⟩
  show exsX (tbG xx s) (Qd (tbG xx s) (n+1)) 100 b1 [some (.ref p),some (.ref q)] hs=_
  rw [QeQ,QeU x1,QeU x2,QjA x3]
  rfl
end
theorem Zq{T:Tbl}{cf:Cf}{d:Nat}{st:S}{r:List S}{ρ ρ1:Rho}{h0 h1:Hs}(h:ex T cf d st ρ h0=some (.next,ρ1,h1)):exs T cf (d+1) (st::r) ρ h0=exs T cf d r ρ1 h1:=by rw [Qm,h]
theorem QjB{T:Tbl}{cf:Cf}{d f:Nat}{a:E}{ρ:Rho}{hs:Hs}:ev T cf (d+1) (.fld a f) ρ hs=bd (ev T cf d a ρ hs) fun u h1=>match u with
   | .ref n=>match h1[n]? with
    | some (.ins _ fs)=>(fs.lookup f).map fun x=>(x,h1)
    | some (.err c)=>if T.efl.contains (c,f)=true then some (.non,h1)else none
    | _=>none
   | _=>none:=rfl
noncomputable def Qlv:S:=.ite (.or (.not (.isi (.var 2) (.cls 2))) (.or (.not (.isi (.var 2) .vale)) (.cmp .IsNot (.fld (.var 2) 0) (.c .non)))) [.ret (.c (.bl false))] []
noncomputable def Qlu:S:=.ite (.or (.isi (.var 2) (.cls 3)) (.or (.isi (.var 2) (.cls 1)) (.isi (.var 2) (.cls 6)))) [.ret (.c (.bl false))] []
noncomputable def r11:S:=.ret (.and (.not (.isi (.var 2) (.cls 5))) (.not (.isi (.var 2) (.cls 4))))
theorem Qi9:b11=[.set 2 (.c .non),.tryS (some 3) 1 [.var 0,.var 1] 0 [.set 2 (.var 3)],Qlv,Qlu,r11]:=rfl
section
variable {xx:Nat->List U->Hs->Option (Nat×Hs)}{s:List U}{n p q:Nat}{hs:Hs}{m m':Sm}{x:Ch}
theorem Qdu{k:Nat}{h0 h2:Hs}{u l:U}(hf:Qd (tbG xx s) k 1 [u,l] h0=none)(hx:xx 1 [u,l] h0=some (2,h2)):Qd (tbG xx s) (k+1) 11 [u,l] h0=some (.bl true,h2++[.err 2]):=by
 have np:(tbG xx s).ers.contains 2=true/\(tbG xx s).esb.contains (2,0)=true/\(match (tbG xx s).fns[1]? with | some F=>decide ([u,l].length=F.np) | none=>false)=true:=⟨rfl,rfl,rfl⟩
 have e0:Qap (.ref h2.length) (h2++[O.err 2])=some (.cls 2):=by simp only [Qap,at0]
 have is:∀t b,(Qg9 (.cls 2) t=none/\(tbG xx s).isi.lookup (.cls 2,t)=some b)->Qfk (tbG xx s) t (.ref h2.length) (h2++[O.err 2])=some b:=fun t b z=>by
  unfold Qfk
  rw [e0]
  show(match Qg9 (.cls 2) t with | some b=>some b | none=>(tbG xx s).isi.lookup (.cls 2,t))=some b
  rw [z.1]
  exact z.2
 have i2:=is (.cls 2) true ⟨rfl,rfl⟩
 have iv:=is .vale true ⟨rfl,rfl⟩
 have i3:=is (.cls 3) false ⟨rfl,rfl⟩
 have i1:=is (.cls 1) false ⟨rfl,rfl⟩
 have i6:=is (.cls 6) false ⟨rfl,rfl⟩
 have i5:=is (.cls 5) false ⟨rfl,rfl⟩
 have i4:=is (.cls 4) false ⟨rfl,rfl⟩
 have ef:((2:Nat),(0:Nat))∈(tbG xx s).efl:=List.mem_cons_self
 rw [Q2 fnL[11] rfl rfl]
 show fin (exs (tbG xx s) (Qd (tbG xx s) k) 100 b11 [some u,some l,none,none] h0)=_
 have x1:ex (tbG xx s) (Qd (tbG xx s) k) 99 (.set 2 (.c .non)) [some u,some l,none,none] h0=some (.next,[some u,some l,some .non,none],h0):=rfl
 have xs:exs (tbG xx s) (Qd (tbG xx s) k) 97 [.set 2 (.var 3)] [some u,some l,some .non,some (.ref h2.length)] (h2++[O.err 2])=some (.next,[some u,some l,some (.ref h2.length),some (.ref h2.length)],h2++[O.err 2]):=rfl
 have x2:ex (tbG xx s) (Qd (tbG xx s) k) 98 (.tryS (some 3) 1 [.var 0,.var 1] 0 [.set 2 (.var 3)]) [some u,some l,some .non,none] h0=some (.next,[some u,some l,some (.ref h2.length),none],h2++[O.err 2]):=by
  rw [ex]
  have hx':(tbG xx s).xf 1 [u,l] h0=some (2,h2):=hx
  simp only [evs,QI,Zs,List.getElem?_cons_succ,List.getElem?_cons_zero,hf,hx']
  refine(if_pos np).trans ?_
  simp only [Qk8,Qly,List.set_cons_succ,List.set_cons_zero,xs,QiK]
 rw [Qi9,Zq x1,Zq x2]
 generalize Qd (tbG xx s) k=cf
 generalize tbG xx s=T at i1 i2 i3 i4 i5 i6 iv ef ⊢
 simp [Qlv,Qlu,r11,Zs,QQ,Qm,Qq,QJ,QK,QT,Qn,QN,y_c,QW,QI,ZE,QR,QX,QP,QV,QM,QS,ZH,ZD,Qp,ZF,QU,ZI,Qs,Qr,Qi,QZ,ZG,QY,QL,QO,Qu,Qx,Q0,Qw,Qt,Qv,Qj,evs,evO,Za,QE,Zm,eq_int,Zg,Zi,opU,ZA,biU,biL,slU,fin,QjB,at0,ef,i1,i2,i3,i4,i5,i6,iv]
noncomputable abbrev iL(is:List Int):List U:=is.map fun i=>.int i 0
theorem Qax{T:Tbl}{n:Nat}:∀is:List Int,((iL is).zip (iL is)).all (fun p=>eqW T (n+1) p.1 p.2 hs)=true
 | []=>rfl
 | i::r=>by
  show((i==i)&&_)=true
  rw [beq_self_eq_true,Bool.true_and]
  exact Qax r
theorem Qaj{T:Tbl}{n:Nat}:∀is:List Int,(iL is).all (fun x=>okW T (n+1) x hs)=true
 | []=>rfl
 | i::r=>Qaj r
theorem QiO{T:Tbl}(h1:JH T (.ref p) (.ref q) hs=false)(h2:okW T 20 (.ref p) hs=true)(h3:okW T 20 (.ref q) hs=true)(h4:eqW T 20 (.ref p) (.ref q) hs=true):eqA T (.ref p) (.ref q) hs=some true:=by
 show(if JH T (.ref p) (.ref q) hs=true then some false else if Qb4 T (.ref p) (.ref q) hs=true then some true else if(okW T 20 (.ref p) hs&&okW T 20 (.ref q) hs)=true then some (eqW T 20 (.ref p) (.ref q) hs)else none)=_
 rw [h1,h2,h3,h4,if_neg Bool.false_ne_true]
 split<;>rfl
theorem QkJ{T:Tbl}{is:List Int}(hp:hs[p]?=some (.tup (iL is)))(hq:hs[q]?=some (.tup (iL is))):eqA T (.ref p) (.ref q) hs=some true:=by
 have l:∀{r},hs[r]?=some (.tup (iL is))->Zb T (.ref r) hs=none/\Yb T (.ref r) hs=some (iL is):=fun {r} h=>by
  constructor
  ·show(match hs[r]? with | some (.lst xs)=>some xs | _=>none)=_
   rw [h]
  ·show(match hs[r]? with | some (.tup xs)=>some xs | _=>none)=_
   rw [h]
 have ok:∀{r},hs[r]?=some (.tup (iL is))->okW T 20 (.ref r) hs=true:=fun {r} h=>by
  show(match Zb T (.ref r) hs with | some xs=>xs.all fun x=>okW T 19 x hs | none=>match Yb T (.ref r) hs with | some xs=>xs.all fun x=>okW T 19 x hs | none=>_)=true
  rw [(l h).1,(l h).2]
  exact Qaj is
 refine QiO ?_ (ok hp) (ok hq) ?_
 ·unfold JH
  rw [(l hp).1]
 ·unfold eqW
  rw [(l hp).1,(l hp).2,(l hq).1,(l hq).2]
  show((_==_)&&_)=true
  rw [beq_self_eq_true,Bool.true_and]
  exact Qax is
theorem QkK{T:Tbl}{is:List Int}(hp:hs[p]?=some (.lst (iL is)))(hq:hs[q]?=some (.lst (iL is))):eqA T (.ref p) (.ref q) hs=some true:=by
 have l:∀{r},hs[r]?=some (.lst (iL is))->Zb T (.ref r) hs=some (iL is):=fun {r} h=>by
  show(match hs[r]? with | some (.lst xs)=>some xs | _=>none)=_
  rw [h]
 have ok:∀{r},hs[r]?=some (.lst (iL is))->okW T 20 (.ref r) hs=true:=fun {r} h=>by
  show(match Zb T (.ref r) hs with | some xs=>xs.all fun x=>okW T 19 x hs | none=>_)=true
  rw [l h]
  exact Qaj is
 refine QiO ?_ (ok hp) (ok hq) ?_
 ·unfold JH
  rw [l hp,l hq]
  exact decide_eq_false fun z=>z rfl
 ·unfold eqW
  rw [l hp,l hq]
  show((_==_)&&_)=true
  rw [beq_self_eq_true,Bool.true_and]
  exact Qax is
noncomputable def i12:S:=.ite (.and (.call 10 [.var 0]) (.call 10 [.var 1])) [.ret (.call 11 [.var 0,.var 1])] []
noncomputable def j12:S:=.ite (.or (.not (.call 9 [.var 4])) (.cmp .NotEq (.call 1 [.var 1,.var 0]) (.var 4))) [.ret (.c (.bl false))] []
noncomputable def r12:S:=.ret (.cmp .Eq (.call 8 [.var 4,.var 3]) (.var 2))
theorem Qi8:b12=[i12,.set 4 (.call 1 [.var 0,.var 1]),j12,r12]:=rfl
theorem QgV{c:Nat}(hp:hs[p]?=some (.tup m.us))(hq:hs[q]?=some (.tup m'.us))(hc:hs[c]?=some (.lst x.us))(h:m.Le (10 ^ 60))(h':m'.Le (10 ^ 60))(hx:x.Le (10 ^ 60)):
  ∃h1,Kp hs h1/\Qd (tb s) (n+4) 12 [.ref p,.ref q,.int (wr m x*wr m' x) 0,.ref c] hs=some (.bl true,h1):=by
 have w:(10:Int) ^ 60<=10 ^ 200:=by decide
 rw [Q2 fnL[12] rfl rfl]
 show ∃h1,_/\fin (exs (tb s) (Qd (tb s) (n+3)) 100 b12 [some (.ref p),some (.ref q),some (.int (wr m x*wr m' x) 0),some (.ref c),none] hs)=_
 have e1:Qd (tb s) (n+3) 10 [.ref p] hs=some (.bl m.sz,hs):=Jm (xx:=Zz (tbX s) 3) (n:=n+2) hp (h.mono w)
 have e2:Qd (tb s) (n+3) 10 [.ref q] hs=some (.bl m'.sz,hs):=Jm (xx:=Zz (tbX s) 3) (n:=n+2) hq (h'.mono w)
 rw [Qi8]
 by_cases z:m.sz=true/\m'.sz=true
 ·obtain⟨_,h2,kx,z2⟩:=QeV (xx:=fun _ _ _=>none) (s:=s) (n:=1) hp hq z.1 z.2
  have z3:Qd (tb s) (n+2) 1 [.ref p,.ref q] hs=none:=(QeV (xx:=Zz (tbX s) 3) (s:=s) (n:=n) hp hq z.1 z.2).1
  have e3:Qd (tb s) (n+3) 11 [.ref p,.ref q] hs=some (.bl true,h2++[.err 2]):=Qdu (xx:=Zz (tbX s) 3) (s:=s) (k:=n+2) z3 z2
  rw [z.1]at e1
  rw [z.2]at e2
  refine⟨h2++[.err 2],kx.trans (Kp.app _ _),?_⟩
  generalize Qd (tb s) (n+3)=cf at e1 e2 e3 ⊢
  generalize tb s=T
  simp [i12,Zs,QQ,Qm,Qq,QJ,QK,QT,Qn,QN,y_c,QW,QI,ZE,QR,QX,QP,QV,QM,QS,ZH,ZD,Qp,ZF,QU,ZI,Qs,Qr,Qi,QZ,ZG,QY,QL,QO,Qu,Qx,Q0,Qw,Qt,Qv,Qj,evs,evO,Za,QE,Zm,eq_int,Zg,Zi,opU,ZA,biU,biL,slU,fin,e1,e2,e3]
 ·obtain⟨hA,r,k1,g1,e3⟩:=Qfy (xx:=Zz (tbX s) 3) (s:=s) (n:=n+1) hp hq h h' z
  have l1:(pr m m').Le (10 ^ 200):=(Qkd h h').mono (by decide)
  have e4:Qd (tb s) (n+3) 9 [.ref r] hA=some (.bl true,hA):=Qfx (xx:=Zz (tbX s) 3) (s:=s) (n:=n+1) g1 l1
  obtain⟨hB,r2,k2,g2,e5⟩:=Qfy (xx:=Zz (tbX s) 3) (s:=s) (n:=n+1) (k1 _ _ hq) (k1 _ _ hp) h' h (fun y=>z ⟨y.2,y.1⟩)
  rw [Qf3 z]at g2
  have e6:=QkJ (T:=tb s) (is:=[_,_,_,_,_]) g2 (k2 _ _ g1)
  have e7:Qd (tb s) (n+3) 8 [.ref r,.ref c] hB=some (.int (wr (pr m m') x) 0,hB):=Jl (xx:=Zz (tbX s) 3) (s:=s) (n:=n+2) l1 (hx.mono w) (k2 _ _ g1) (k2 _ _ (k1 _ _ hc))
  rw [QjC z]at e7
  change Qd (tb s) (n+3) 1 [.ref p,.ref q] hs=some (.ref r,hA)at e3
  change Qd (tb s) (n+3) 1 [.ref q,.ref p] hA=some (.ref r2,hB)at e5
  refine⟨hB,k1.trans k2,?_⟩
  have en:(m.sz&&m'.sz)=false:=by
   cases y:m.sz with
   | false=>rfl
   | true =>
    cases y':m'.sz with
    | false=>rfl
    | true=>exact absurd ⟨y,y'⟩ z
  have x1:ex (tb s) (Qd (tb s) (n+3)) 99 i12 [some (.ref p),some (.ref q),some (.int (wr m x*wr m' x) 0),some (.ref c),none] hs=some (.next,[some (.ref p),some (.ref q),some (.int (wr m x*wr m' x) 0),some (.ref c),none],hs):=by
   generalize Qd (tb s) (n+3)=cf at e1 e2 ⊢
   generalize tb s=T
   cases y:m.sz with
   | false=>rw [y]at e1;simp [i12,Zs,QQ,Qm,Qq,QJ,QK,QT,Qn,QN,y_c,QW,QI,ZE,QR,QX,QP,QV,QM,QS,ZH,ZD,Qp,ZF,QU,ZI,Qs,Qr,Qi,QZ,ZG,QY,QL,QO,Qu,Qx,Q0,Qw,Qt,Qv,Qj,evs,evO,Za,QE,Zm,eq_int,Zg,Zi,opU,ZA,biU,biL,slU,fin,e1]
   | true =>
    rw [y]at e1 en
    rw [show m'.sz=false from en]at e2
    simp [i12,Zs,QQ,Qm,Qq,QJ,QK,QT,Qn,QN,y_c,QW,QI,ZE,QR,QX,QP,QV,QM,QS,ZH,ZD,Qp,ZF,QU,ZI,Qs,Qr,Qi,QZ,ZG,QY,QL,QO,Qu,Qx,Q0,Qw,Qt,Qv,Qj,evs,evO,Za,QE,Zm,eq_int,Zg,Zi,opU,ZA,biU,biL,slU,fin,e1,e2]
  rw [Zq x1]
  generalize Qd (tb s) (n+3)=cf at e3 e4 e5 e7 ⊢
  generalize tb s=T at e6 ⊢
  simp [j12,r12,Zs,QQ,Qm,Qq,QJ,QK,QT,Qn,QN,y_c,QW,QI,ZE,QR,QX,QP,QV,QM,QS,ZH,ZD,Qp,ZF,QU,ZI,Qs,Qr,Qi,QZ,ZG,QY,QL,QO,Qu,Qx,Q0,Qw,Qt,Qv,Qj,evs,evO,Za,QE,Zm,eq_int,Zg,Zi,opU,ZA,biU,biL,slU,fin,e3,e4,e5,e6,e7]
end
noncomputable def QbL(c:Nat->Int):List U:=[.int (c 0) 0,.int (c 1) 0,.int (c 2) 0,.int (c 3) 0,.int (c 4) 0,.int (c 5) 0,.int (c 6) 0,.int (c 7) 0,.int (c 8) 0,.int (c 9) 0,.int (c 10) 0,.int (c 11) 0,.int (c 12) 0,.int (c 13) 0]
theorem okM{a B:Int}(h0:0<B):0<=a % B/\a % B<B:=⟨Int.emod_nonneg _ (Int.ne_of_gt h0),Int.emod_lt_of_pos a h0⟩
section
variable {xx:Nat->List U->Hs->Option (Nat×Hs)}{s:List U}{n p q:Nat}{hs:Hs}{m m':Sm}{x:Ch}
theorem Qds{M a0 a1 a2 a3 a4:Int}{b:Bool}(hM:0<M)(hp:hs[p]?=some (.lst [.int a0 0,.int a1 0,.int a2 0,.int a3 0,.int a4 0])):∃h1 r m,Kp hs h1/\h1[r]?=some (.tup (Sm.us m))/\Sm.Le m M/\Qd (tbG xx s) (n+1) 7 [.ref p,.int M 0,.bl b] hs=some (.ref r,h1):=by
 rw [Q2 fnL[7] rfl rfl]
 show ∃h1 r m,_/\_/\_/\fin (exs (tbG xx s) (Qd (tbG xx s) n) 100 b7 [some (.ref p),some (.int M 0),some (.bl b)] hs)=_
 generalize Qd (tbG xx s) n=cf
 generalize tbG xx s=T
 cases b with
 | true =>
  refine⟨hs++[.tup (⟨a0 % M,0,0,0,0⟩:Sm).us],hs.length,⟨a0 % M,0,0,0,0⟩,Kp.app _ _,at0,⟨okM hM,⟨Int.le_refl _,hM⟩,⟨Int.le_refl _,hM⟩,⟨Int.le_refl _,hM⟩,⟨Int.le_refl _,hM⟩⟩,?_⟩
  simp [b7,Zs,QQ,Qm,Qq,QJ,QK,QT,Qn,QN,y_c,QW,QI,ZE,QR,QX,QP,QV,QM,QS,ZH,ZD,Qp,ZF,QU,ZI,Qs,Qr,Qi,QZ,ZG,QY,QL,QO,Qu,Qx,Q0,Qw,Qt,Qv,Qj,evs,evO,Za,QE,Zm,eq_int,Zg,Zi,opU,ZA,biU,biL,slU,fin,hp,atU,ixU,Qer,hM,Sm.us]
 | false =>
  refine⟨hs++[.lst (⟨a0 % M,a1 % M,a2 % M,a3 % M,a4 % M⟩:Sm).us,.tup (⟨a0 % M,a1 % M,a2 % M,a3 % M,a4 % M⟩:Sm).us],hs.length+1,⟨a0 % M,a1 % M,a2 % M,a3 % M,a4 % M⟩,Kp.app _ _,at1,⟨okM hM,okM hM,okM hM,okM hM,okM hM⟩,?_⟩
  simp [b7,Zs,QQ,Qm,Qq,QJ,QK,QT,Qn,QN,y_c,QW,QI,ZE,QR,QX,QP,QV,QM,QS,ZH,ZD,Qp,ZF,QU,ZI,Qs,Qr,Qi,QZ,ZG,QY,QL,QO,Qu,Qx,Q0,Qw,Qt,Qv,Qj,evs,evO,Za,QE,Zm,eq_int,Zg,Zi,opU,ZA,biU,biL,slU,fin,hp,wkS,Zb,Zy,itm,tgt,tgN,Qbq,YI,Qer,hM,at0,Sm.us]
noncomputable def orB(i j:Int):E:=.or (.cmp .Eq (.op .Mod (.op .FloorDiv (.var 1) (.c (.int 4 0))) (.c (.int 4 0))) (.c (.int i 0))) (.cmp .Eq (.op .Mod (.op .FloorDiv (.var 1) (.c (.int 4 0))) (.c (.int 4 0))) (.c (.int j 0)))
noncomputable def elC:E:=.op .Mod (.var 11) (.var 2)
noncomputable def Qjo:List S:=[(.set 8 (.call 3 [(.var 7),(.bi .list [(.var 5)])])),(.ite (.or (.not (.call 6 [(.var 8)])) (.cmp .NotEq (.var 8) (.call 8 [(.var 7),(.var 5)]))) [(.ret (.c (.bl false)))] []),(.set 9 (.call 4 [(.var 7)])),(.ite (.or (.not (.isi (.var 9) .bool)) (.cmp .NotEq (.var 9) (.call 10 [(.var 7)]))) [(.ret (.c (.bl false)))] []),(.expr (.bm .append (.var 6) [(.var 8)]))]
noncomputable def Qj6:S:=.set 2 (.ix (.lst [(.op .Pow (.c (.int 10 0)) (.c (.int 60 0))),(.c (.int 5 0)),(.c (.int 5 0)),(.c (.int 5 0))]) (.op .Mod (.var 1) (.c (.int 4 0))))
noncomputable def Qj5:S:=.set 3 (.call 7 [(.sl (.var 0) none (some (.c (.int 5 0)))),(.var 2),orB 1 2])
noncomputable def Qj4:S:=.set 4 (.call 7 [(.sl (.var 0) (some (.c (.int 5 0))) (some (.c (.int 10 0)))),(.var 2),orB 2 3])
noncomputable def Qj3:S:=.set 5 (.comp (.seq (.sl (.var 0) (some (.c (.int 10 0))) (some (.c (.int 14 0))))) false none elC)
noncomputable def Qj2:S:=.ite (.or (.not (.call 9 [(.var 10)])) (.cmp .NotEq (.call 8 [(.var 10),(.var 5)]) (.op .Add (.ix (.var 6) (.c (.int 0 0))) (.ix (.var 6) (.c (.int 1 0)))))) [(.ret (.c (.bl false)))] []
noncomputable def elD:E:=.op .Sub (.ix (.var 10) (.var 11)) (.ix (.var 3) (.var 11))
noncomputable def Qj1:S:=.ite (.cmp .NotEq (.comp (.rng (.c (.int 5 0))) false none elD) (.bi .list [(.var 4)])) [(.ret (.c (.bl false)))] []
noncomputable def r13:S:=.ret (.call 12 [(.var 3),(.var 4),(.op .Mult (.ix (.var 6) (.c (.int 0 0))) (.ix (.var 6) (.c (.int 1 0)))),(.var 5)])
theorem Qi7:b13=[Qj6,Qj5,Qj4,Qj3,.set 6 (.lst []),.loop (.name 7) (.seq (.lst [(.var 3),(.var 4)])) Qjo,.set 10 (.call 0 [(.var 3),(.var 4)]),Qj2,Qj1,r13]:=rfl
noncomputable def Kv(v:Nat)(hs hs':Hs):Prop:=∀(p:Nat) o,p≠v->hs[p]?=some o->hs'[p]?=some o
theorem QkL{T:Tbl}{a b:Bool}{hs:Hs}:eqA T (.bl a) (.bl b) hs=some (decide (a=b)):=rfl
theorem Qe1{v c:Nat}{vs:List U}{o0 o1 o2 o3 o4 o8 o9 o10:Option U}{d:Nat}(hp:hs[p]?=some (.tup m.us))(hc:hs[c]?=some (.lst x.us))(hv:hs[v]?=some (.lst vs))(h:m.Le (10 ^ 60))(hx:x.Le (10 ^ 60))(lv:vs.length<10):
  ∃h1 b1 b2,Kv v hs h1/\h1[v]?=some (.lst (vs++[.int (wr m x) 0]))/\exs (tbG xx s) (Qd (tbG xx s) (n+1)) (d+30) Qjo [o0,o1,o2,o3,o4,some (.ref c),some (.ref v),some (.ref p),o8,o9,o10] hs=some (.next,[o0,o1,o2,o3,o4,some (.ref c),some (.ref v),some (.ref p),b1,b2,o10],h1):=by
 have w:(10:Int) ^ 60<=10 ^ 200:=by decide
 have k0:Kp hs (hs++[.lst x.us]):=Kp.app _ _
 obtain⟨z1,e1⟩:=QgT (xx:=xx) (s:=s) (n:=n) (h.mono w) (hx.mono w) (k0 _ _ hp) (at0 (hs:=hs) (a:=.lst x.us) (r:=[]))
 have k1:Kp hs (hs++[.lst x.us]++z1):=k0.trans (Kp.app _ _)
 generalize hA:hs++[O.lst x.us]++z1=A at e1 k1
 have e2:Qd (tbG xx s) (n+1) 6 [.int (wr m x) 0] A=some (.bl true,A):=Qdr
 have e3:=Jl (xx:=xx) (s:=s) (n:=n) (h.mono w) (hx.mono w) (k1 _ _ hp) (k1 _ _ hc)
 obtain⟨z4,e4⟩:=Qdt (xx:=xx) (s:=s) (n:=n) (k1 _ _ hp)
 have k2:Kp hs (A++z4):=k1.trans (Kp.app _ _)
 generalize A++z4=B at e4 k2
 have e5:=Jm (xx:=xx) (s:=s) (n:=n) (k2 _ _ hp) (h.mono w)
 have hv2:=k2 _ _ hv
 have l:=(List.getElem?_eq_some_iff.mp hv2).1
 refine⟨B.set v (.lst (vs++[.int (wr m x) 0])),some (.int (wr m x) 0),some (.bl m.sz),fun p o np e=>?_,List.getElem?_set_self l,?_⟩
 ·rw [List.getElem?_set_ne (Ne.symm np)]
  exact k2 _ _ e
 have lv':vs.length<1000000:=by lia
 have is:Qfk (tbG xx s) .bool (.bl m.sz) B=some true:=rfl
 generalize Qd (tbG xx s) (n+1)=cf at e1 e2 e3 e4 e5 ⊢
 generalize tbG xx s=T at is ⊢
 simp [Qjo,Zs,QQ,Qm,Qq,QJ,QK,QT,Qn,QN,y_c,QW,QI,ZE,QR,QX,QP,QV,QM,QS,ZH,ZD,Qp,ZF,QU,ZI,Qs,Qr,Qi,QZ,ZG,QY,QL,QO,Qu,Qx,Q0,Qw,Qt,Qv,Qj,evs,evO,Za,QE,Zm,eq_int,Zg,Zi,opU,ZA,biU,biL,slU,fin,Z5,hc,e1,e2,e3,e4,e5,QkL,is,Qg8,hv2,bL,bmU,bmL,lv']
end
section
variable {xx:Nat->List U->Hs->Option (Nat×Hs)}{s:List U}{n p q:Nat}{hs:Hs}{m m':Sm}{x:Ch}
theorem QlB{T:Tbl}{cf:Cf}{d:Nat}{ρ:Rho}{kd i j:Int}(h:ρ[1]?=some (some (.int kd 0))):ev T cf (d+10) (orB i j) ρ hs=some (.bl (decide (kd / 4 % 4=i)||decide (kd / 4 % 4=j)),hs):=by
 by_cases z:kd / 4 % 4=i
 ·simp [orB,Zs,QQ,Qm,Qq,QJ,QK,QT,Qn,QN,y_c,QW,QI,ZE,QR,QX,QP,QV,QM,QS,ZH,ZD,Qp,ZF,QU,ZI,Qs,Qr,Qi,QZ,ZG,QY,QL,QO,Qu,Qx,Q0,Qw,Qt,Qv,Qj,evs,evO,Za,QE,Zm,eq_int,Zg,Zi,opU,ZA,biU,biL,slU,fin,h,QiT,Qer,z]
 ·simp [orB,Zs,QQ,Qm,Qq,QJ,QK,QT,Qn,QN,y_c,QW,QI,ZE,QR,QX,QP,QV,QM,QS,ZH,ZD,Qp,ZF,QU,ZI,Qs,Qr,Qi,QZ,ZG,QY,QL,QO,Qu,Qx,Q0,Qw,Qt,Qv,Qj,evs,evO,Za,QE,Zm,eq_int,Zg,Zi,opU,ZA,biU,biL,slU,fin,h,QiT,Qer,z]
theorem Qhq{T:Tbl}{cf:Cf}{kd:Int}{o0:Option U}:∃M z,0<M/\M<=10 ^ 60/\ex T cf 99 Qj6 [o0,some (.int kd 0),none,none,none,none,none,none,none,none,none] hs=some (.next,[o0,some (.int kd 0),some (.int M 0),none,none,none,none,none,none,none,none],hs++z):=by
 obtain⟨P,hP,pw⟩:∃P:Int,P=10 ^ 60/\Qjl (.int 10 0) (.int 60 0)=some (.int P 0):=⟨_,rfl,rfl⟩
 have bnd:∃M,0<M/\M<=10 ^ 60/\atU [U.int P 0,.int 5 0,.int 5 0,.int 5 0] (kd % 4)=some (.int M 0):=by
  rcases (show kd % 4=0\/kd % 4=1\/kd % 4=2\/kd % 4=3 by lia)with z | z | z | z
  ·exact⟨P,by rw [hP];decide,by rw [hP];decide,by rw [z];rfl⟩
  ·exact⟨5,by decide,by decide,by rw [z];rfl⟩
  ·exact⟨5,by decide,by decide,by rw [z];rfl⟩
  ·exact⟨5,by decide,by decide,by rw [z];rfl⟩
 obtain⟨M,h0,h1,hb⟩:=bnd
 refine⟨M,[.lst [.int P 0,.int 5 0,.int 5 0,.int 5 0]],h0,h1,?_⟩
 simp [Qj6,Zs,QQ,Qm,Qq,QJ,QK,QT,Qn,QN,y_c,QW,QI,ZE,QR,QX,QP,QV,QM,QS,ZH,ZD,Qp,ZF,QU,ZI,Qs,Qr,Qi,QZ,ZG,QY,QL,QO,Qu,Qx,Q0,Qw,Qt,Qv,Qj,evs,evO,Za,QE,Zm,eq_int,Zg,Zi,opU,ZA,biU,biL,slU,fin,pw,at0,Qer,hb]
theorem QdW{T:Tbl}{cf:Cf}{d:Nat}{M:Int}{c:Nat->Int}{o1 o3 o4 o5 o6 o7 o8 o9 o10:Option U}(hM:0<M)(hq:hs[q]?=some (.lst (QbL c))):∃z v x,Kp hs z/\z[v]?=some (.lst (Ch.us x))/\Ch.Le x M /\
  ex T cf (d+30) Qj3 [some (.ref q),o1,some (.int M 0),o3,o4,o5,o6,o7,o8,o9,o10] hs=some (.next,[some (.ref q),o1,some (.int M 0),o3,o4,some (.ref v),o6,o7,o8,o9,o10],z):=by
 refine⟨hs++[.lst [.int (c 10) 0,.int (c 11) 0,.int (c 12) 0,.int (c 13) 0],.lst (⟨c 10 % M,c 11 % M,c 12 % M,c 13 % M⟩:Ch).us],hs.length+1,⟨c 10 % M,c 11 % M,c 12 % M,c 13 % M⟩,Kp.app _ _,at1,⟨okM hM,okM hM,okM hM,okM hM⟩,?_⟩
 have ct:YF (QbL c) (some 10) (some 14)=[.int (c 10) 0,.int (c 11) 0,.int (c 12) 0,.int (c 13) 0]:=rfl
 simp [Qj3,elC,Zs,QQ,Qm,Qq,QJ,QK,QT,Qn,QN,y_c,QW,QI,ZE,QR,QX,QP,QV,QM,QS,ZH,ZD,Qp,ZF,QU,ZI,Qs,Qr,Qi,QZ,ZG,QY,QL,QO,Qu,Qx,Q0,Qw,Qt,Qv,Qj,evs,evO,Za,QE,Zm,eq_int,Zg,Zi,opU,ZA,biU,biL,slU,fin,hq,ct,wkS,Zb,at0,Zy,itm,tgt,tgN,Qbq,YI,Qer,hM,Ch.us]
theorem Qhr{v c p':Nat}{o0 o1 o2 o8 o9 o10:Option U}(hp:hs[p]?=some (.tup m.us))(hp':hs[p']?=some (.tup m'.us))(hc:hs[c]?=some (.lst x.us))(hv:hs[v]?=some (.lst []))(h:m.Le (10 ^ 60))(h':m'.Le (10 ^ 60))(hx:x.Le (10 ^ 60)):
  ∃h1 b0 b1 b2,Kv v hs h1/\h1[v]?=some (.lst [.int (wr m x) 0,.int (wr m' x) 0])/\ex (tbG xx s) (Qd (tbG xx s) (n+1)) 94 (.loop (.name 7) (.seq (.lst [(.var 3),(.var 4)])) Qjo) [o0,o1,o2,some (.ref p),some (.ref p'),some (.ref c),some (.ref v),none,o8,o9,o10] hs=some (.next,[o0,o1,o2,some (.ref p),some (.ref p'),some (.ref c),some (.ref v),b0,b1,b2,o10],h1):=by
 have k0:Kp hs (hs++[.lst [.ref p,.ref p']]):=Kp.app _ _
 have nv:∀{a:Nat} {o:O},hs[a]?=some o->o≠.lst []->a≠v:=fun e ne z=>by rw [z,hv]at e;cases e;exact ne rfl
 have np:=nv hp (fun z=>nomatch z)
 have np':=nv hp' (fun z=>nomatch z)
 have nc:=nv hc (fun z=>by simp [Ch.us]at z)
 have nl:hs.length≠v:=fun z=>by have:=(List.getElem?_eq_some_iff.mp hv).1;lia
 generalize hA:hs++[O.lst [.ref p,.ref p']]=A at k0
 have hL:A[hs.length]?=some (.lst [.ref p,.ref p']):=by rw [<-hA];exact at0
 obtain⟨h1,b1,b2,k1,g1,e1⟩:=Qe1 (xx:=xx) (s:=s) (n:=n) (d:=63) (o0:=o0) (o1:=o1) (o2:=o2) (o3:=some (.ref p)) (o4:=some (.ref p')) (o8:=o8) (o9:=o9) (o10:=o10) (k0 _ _ hp) (k0 _ _ hc) (k0 _ _ hv) h hx (by decide)
 obtain⟨h2,b3,b4,k2,g2,e2⟩:=Qe1 (xx:=xx) (s:=s) (n:=n) (d:=63) (o0:=o0) (o1:=o1) (o2:=o2) (o3:=some (.ref p)) (o4:=some (.ref p')) (o8:=b1) (o9:=b2) (o10:=o10) (k1 _ _ np' (k0 _ _ hp')) (k1 _ _ nc (k0 _ _ hc)) g1 h' hx (by simp)
 refine⟨h2,some (.ref p'),b3,b4,fun a o na e=>k2 _ _ na (k1 _ _ na (k0 _ _ e)),g2,?_⟩
 have hL1:=k1 _ _ nl hL
 have hL2:=k2 _ _ nl hL1
 simp only [Nat.reduceAdd]at e1 e2
 have sr:Za (tbG xx s) (ev (tbG xx s) (Qd (tbG xx s) (n+1)) 93) [o0,o1,o2,some (.ref p),some (.ref p'),some (.ref c),some (.ref v),none,o8,o9,o10] (.seq (.lst [(.var 3),(.var 4)])) hs=some (.seqL (.ref hs.length),A):=by
  rw [<-hA]
  generalize tbG xx s=T
  simp [Zs,QQ,Qm,Qq,QJ,QK,QT,Qn,QN,y_c,QW,QI,ZE,QR,QX,QP,QV,QM,QS,ZH,ZD,Qp,ZF,QU,ZI,Qs,Qr,Qi,QZ,ZG,QY,QL,QO,Qu,Qx,Q0,Qw,Qt,Qv,Qj,evs,evO,Za,QE,Zm,eq_int,Zg,Zi,opU,ZA,biU,biL,slU,fin,wkS,Zb,at0]
 rw [Qn,sr,Zs]
 have tn:QE (tbG xx s) (.seqL (.ref hs.length)) A=3:=by simp [QE,Zb,hL]
 rw [tn]
 have i0:itm (tbG xx s) (.seqL (.ref hs.length)) 0 A=some (some (.one (.ref p))):=by simp [itm,Zb,hL]
 have i1:itm (tbG xx s) (.seqL (.ref hs.length)) 1 h1=some (some (.one (.ref p'))):=by simp [itm,Zb,hL1]
 have i2:itm (tbG xx s) (.seqL (.ref hs.length)) 2 h2=some none:=by simp [itm,Zb,hL2]
 simp only [Qaa,i0,tgt,List.set_cons_succ,List.set_cons_zero,e1,i1,e2,i2]
end
section
variable {xx:Nat->List U->Hs->Option (Nat×Hs)}{s:List U}{n p q:Nat}{hs:Hs}{m m':Sm}{x:Ch}
theorem Qhp{kd M:Int}{c:Nat->Int}(hM:0<M)(hq:hs[q]?=some (.lst (QbL c))):∃h1 r m,Kp hs h1/\h1[r]?=some (.tup (Sm.us m))/\Sm.Le m M/\ex (tbG xx s) (Qd (tbG xx s) (n+1)) 98 Qj5 [some (.ref q),some (.int kd 0),some (.int M 0),none,none,none,none,none,none,none,none] hs=some (.next,[some (.ref q),some (.int kd 0),some (.int M 0),some (.ref r),none,none,none,none,none,none,none],h1):=by
 have k0:Kp hs (hs++[.lst [.int (c 0) 0,.int (c 1) 0,.int (c 2) 0,.int (c 3) 0,.int (c 4) 0]]):=Kp.app _ _
 have ct:YF (QbL c) none (some 5)=[.int (c 0) 0,.int (c 1) 0,.int (c 2) 0,.int (c 3) 0,.int (c 4) 0]:=rfl
 obtain⟨b,eo⟩:∃b,ev (tbG xx s) (Qd (tbG xx s) (n+1)) 96 (orB 1 2) [some (.ref q),some (.int kd 0),some (.int M 0),none,none,none,none,none,none,none,none] (hs++[.lst [.int (c 0) 0,.int (c 1) 0,.int (c 2) 0,.int (c 3) 0,.int (c 4) 0]])=some (.bl b,hs++[.lst [.int (c 0) 0,.int (c 1) 0,.int (c 2) 0,.int (c 3) 0,.int (c 4) 0]]):=⟨_,QlB (d:=86) rfl⟩
 obtain⟨h1,r,m,k1,g1,l1,e1⟩:=Qds (xx:=xx) (s:=s) (n:=n) (b:=b) hM (at0 (hs:=hs) (a:=.lst [.int (c 0) 0,.int (c 1) 0,.int (c 2) 0,.int (c 3) 0,.int (c 4) 0]) (r:=[]))
 refine⟨h1,r,m,k0.trans k1,g1,l1,?_⟩
 generalize Qd (tbG xx s) (n+1)=cf at e1 eo ⊢
 generalize tbG xx s=T at eo ⊢
 simp [Qj5,Zs,QQ,Qm,Qq,QJ,QK,QT,Qn,QN,y_c,QW,QI,ZE,QR,QX,QP,QV,QM,QS,ZH,ZD,Qp,ZF,QU,ZI,Qs,Qr,Qi,QZ,ZG,QY,QL,QO,Qu,Qx,Q0,Qw,Qt,Qv,Qj,evs,evO,Za,QE,Zm,eq_int,Zg,Zi,opU,ZA,biU,biL,slU,fin,hq,ct,eo,e1]
theorem Qho{kd M:Int}{c:Nat->Int}{o:Option U}(hM:0<M)(hq:hs[q]?=some (.lst (QbL c))):∃h1 r m,Kp hs h1/\h1[r]?=some (.tup (Sm.us m))/\Sm.Le m M/\ex (tbG xx s) (Qd (tbG xx s) (n+1)) 97 Qj4 [some (.ref q),some (.int kd 0),some (.int M 0),o,none,none,none,none,none,none,none] hs=some (.next,[some (.ref q),some (.int kd 0),some (.int M 0),o,some (.ref r),none,none,none,none,none,none],h1):=by
 have k0:Kp hs (hs++[.lst [.int (c 5) 0,.int (c 6) 0,.int (c 7) 0,.int (c 8) 0,.int (c 9) 0]]):=Kp.app _ _
 have ct:YF (QbL c) (some 5) (some 10)=[.int (c 5) 0,.int (c 6) 0,.int (c 7) 0,.int (c 8) 0,.int (c 9) 0]:=rfl
 obtain⟨b,eo⟩:∃b,ev (tbG xx s) (Qd (tbG xx s) (n+1)) 95 (orB 2 3) [some (.ref q),some (.int kd 0),some (.int M 0),o,none,none,none,none,none,none,none] (hs++[.lst [.int (c 5) 0,.int (c 6) 0,.int (c 7) 0,.int (c 8) 0,.int (c 9) 0]])=some (.bl b,hs++[.lst [.int (c 5) 0,.int (c 6) 0,.int (c 7) 0,.int (c 8) 0,.int (c 9) 0]]):=⟨_,QlB (d:=85) rfl⟩
 obtain⟨h1,r,m,k1,g1,l1,e1⟩:=Qds (xx:=xx) (s:=s) (n:=n) (b:=b) hM (at0 (hs:=hs) (a:=.lst [.int (c 5) 0,.int (c 6) 0,.int (c 7) 0,.int (c 8) 0,.int (c 9) 0]) (r:=[]))
 refine⟨h1,r,m,k0.trans k1,g1,l1,?_⟩
 generalize Qd (tbG xx s) (n+1)=cf at e1 eo ⊢
 generalize tbG xx s=T at eo ⊢
 simp [Qj4,Zs,QQ,Qm,Qq,QJ,QK,QT,Qn,QN,y_c,QW,QI,ZE,QR,QX,QP,QV,QM,QS,ZH,ZD,Qp,ZF,QU,ZI,Qs,Qr,Qi,QZ,ZG,QY,QL,QO,Qu,Qx,Q0,Qw,Qt,Qv,Qj,evs,evO,Za,QE,Zm,eq_int,Zg,Zi,opU,ZA,biU,biL,slU,fin,hq,ct,eo,e1]
theorem Qhf(h:m.Le (10 ^ 60))(h':x.Le (10 ^ 60)):0<=wr m x/\wr m x<10 ^ 200:=by
 have h0:=h.a
 have h1:=ZU h.b h'.a
 have h2:=ZU h.c h'.b
 have h3:=ZU h.d h'.c
 have h4:=ZU h.e h'.d
 unfold wr
 generalize m.b*x.a=a at h1 ⊢
 generalize m.c*x.b=b at h2 ⊢
 generalize m.d*x.c=c at h3 ⊢
 generalize m.e*x.d=d at h4 ⊢
 lia
theorem Sm.add_le(h:m.Le (10 ^ 60))(h':m'.Le (10 ^ 60)):(m.add m').Le (10 ^ 200):=by
 have:=h.a
 have:=h.b
 have:=h.c
 have:=h.d
 have:=h.e
 have:=h'.a
 have:=h'.b
 have:=h'.c
 have:=h'.d
 have:=h'.e
 constructor<;>show 0<=_+_/\_+_<_<;>lia
theorem QlJ{T:Tbl}{cf:Cf}{r:Nat}{o0 o1 o2 o5 o6 o7 o8 o9:Option U}(hp:hs[p]?=some (.tup m.us))(hq:hs[q]?=some (.tup m'.us))(hr:hs[r]?=some (.tup (m.add m').us)):∃h1,Kp hs h1/\ex T cf 91 Qj1 [o0,o1,o2,some (.ref p),some (.ref q),o5,o6,o7,o8,o9,some (.ref r)] hs=some (.next,[o0,o1,o2,some (.ref p),some (.ref q),o5,o6,o7,o8,o9,some (.ref r)],h1):=by
 refine⟨hs++[.lst m'.us,.lst m'.us],Kp.app _ _,?_⟩
 have eq:=QkK (T:=T) (is:=[_,_,_,_,_]) (at0 (hs:=hs) (a:=O.lst m'.us) (r:=[.lst m'.us])) (at1 (hs:=hs) (a:=O.lst m'.us) (b:=O.lst m'.us) (r:=[]))
 have hq':(hs++[O.lst m'.us])[q]?=some (.tup m'.us):=QcM hq
 have s4:Ql 20=true:=by decide
 have ac:∀a b:Int,a+b-a=b:=fun a b=>by lia
 have cm:Zy T (ev T cf 87) (YI (evT T cf 87) none) (.rng 0 5) false elD [o0,o1,o2,some (.ref p),some (.ref q),o5,o6,o7,o8,o9,some (.ref r)] 6 0 [] hs=some (m'.us,hs):=by
  simp [Zy,itm,tgt,tgN,Qbq,YI,elD,Zs,QQ,Qm,Qq,QJ,QK,QT,Qn,QN,y_c,QW,QI,ZE,QR,QX,QP,QV,QM,QS,ZH,ZD,Qp,ZF,QU,ZI,Qs,Qr,Qi,QZ,ZG,QY,QL,QO,Qu,Qx,Q0,Qw,Qt,Qv,Qj,evs,evO,Za,QE,Zm,eq_int,Zg,Zi,opU,ZA,biU,biL,slU,fin,hp,hr,Sm.us,atU,ixU,gz,s4,Sm.add,QjM,ac]
 simp [Qj1,Zs,QQ,Qm,Qq,QJ,QK,QT,Qn,QN,y_c,QW,QI,ZE,QR,QX,QP,QV,QM,QS,ZH,ZD,Qp,ZF,QU,ZI,Qs,Qr,Qi,QZ,ZG,QY,QL,QO,Qu,Qx,Q0,Qw,Qt,Qv,Qj,evs,evO,Za,QE,Zm,eq_int,Zg,Zi,opU,ZA,biU,biL,slU,fin,s4,Z5,cm,hq',eq]
theorem QiZ{kd:Int}{c:Nat->Int}(hq:hs[q]?=some (.lst (QbL c))):∃h1,Kp hs h1/\Qd (tb s) (n+5) 13 [.ref q,.int kd 0] hs=some (.bl true,h1):=by
 rw [Q2 fnL[13] rfl rfl]
 show ∃h1,_/\fin (exs (tb s) (Qd (tb s) (n+4)) 100 b13 [some (.ref q),some (.int kd 0),none,none,none,none,none,none,none,none,none] hs)=_
 rw [Qi7]
 obtain⟨M,z,hM,hM6,e1⟩:=Qhq (T:=tb s) (cf:=Qd (tb s) (n+4)) (kd:=kd) (o0:=some (.ref q)) (hs:=hs)
 rw [Zq e1]
 have q1:=QcM (r:=z) hq
 have kA:Kp hs (hs++z):=Kp.app _ _
 generalize hs++z=hA at q1 kA
 obtain⟨hB,p,m,k1,g1,l1,e2⟩:=Qhp (xx:=Zz (tbX s) 3) (s:=s) (n:=n+3) (kd:=kd) hM q1
 rw [Zq (T:=tb s) (cf:=Qd (tb s) (n+4)) e2]
 have q2:=k1 _ _ q1
 obtain⟨hC,p',m',k2,g2,l2,e3⟩:=Qho (xx:=Zz (tbX s) 3) (s:=s) (n:=n+3) (kd:=kd) (o:=some (.ref p)) hM q2
 rw [Zq (T:=tb s) (cf:=Qd (tb s) (n+4)) e3]
 have g1:=k2 _ _ g1
 obtain⟨hD,cc,x,k3,g3,l3,e4⟩:=QdW (T:=tb s) (cf:=Qd (tb s) (n+4)) (d:=66) (o1:=some (.int kd 0)) (o3:=some (.ref p)) (o4:=some (.ref p')) (o5:=none) (o6:=none) (o7:=none) (o8:=none) (o9:=none) (o10:=none) hM (k2 _ _ q2)
 rw [Zq e4]
 have g1:=k3 _ _ g1
 have g2:=k3 _ _ g2
 have l1:=l1.mono hM6
 have l2:=l2.mono hM6
 have l3:=l3.mono hM6
 have k4:Kp hD (hD++[.lst []]):=Kp.app _ _
 have e5:ex (tb s) (Qd (tb s) (n+4)) 95 (.set 6 (.lst [])) [some (.ref q),some (.int kd 0),some (.int M 0),some (.ref p),some (.ref p'),some (.ref cc),none,none,none,none,none] hD=some (.next,[some (.ref q),some (.int kd 0),some (.int M 0),some (.ref p),some (.ref p'),some (.ref cc),some (.ref hD.length),none,none,none,none],hD++[.lst []]):=rfl
 rw [Zq e5]
 have nv:∀{a:Nat} {o:O},hD[a]?=some o->a≠hD.length:=fun e=>Nat.ne_of_lt (List.getElem?_eq_some_iff.mp e).1
 obtain⟨hE,b0,b1,b2,k5,g5,e6⟩:=Qhr (xx:=Zz (tbX s) 3) (s:=s) (n:=n+3) (o0:=some (.ref q)) (o1:=some (.int kd 0)) (o2:=some (.int M 0)) (o8:=none) (o9:=none) (o10:=none) (k4 _ _ g1) (k4 _ _ g2) (k4 _ _ g3) (at0 (hs:=hD) (a:=.lst []) (r:=[])) l1 l2 l3
 rw [Zq (T:=tb s) (cf:=Qd (tb s) (n+4)) e6]
 have g1:=k5 _ _ (nv g1) (k4 _ _ g1)
 have g2:=k5 _ _ (nv g2) (k4 _ _ g2)
 have g3:=k5 _ _ (nv g3) (k4 _ _ g3)
 have kE:Kp hD hE:=fun a o e=>k5 _ _ (nv e) (k4 _ _ e)
 generalize hD.length=v at g5
 obtain⟨hF,r,k6,g6,t7⟩:=QgU (xx:=Zz (tbX s) 3) (s:=s) (n:=n+3) g1 g2
 have e7:ex (tb s) (Qd (tb s) (n+4)) 93 (.set 10 (.call 0 [(.var 3),(.var 4)])) [some (.ref q),some (.int kd 0),some (.int M 0),some (.ref p),some (.ref p'),some (.ref cc),some (.ref v),b0,b1,b2,none] hE=some (.next,[some (.ref q),some (.int kd 0),some (.int M 0),some (.ref p),some (.ref p'),some (.ref cc),some (.ref v),b0,b1,b2,some (.ref r)],hF):=by
  change Qd (tb s) (n+4) 0 [.ref p,.ref p'] hE=some (.ref r,hF)at t7
  generalize Qd (tb s) (n+4)=cf at t7 ⊢
  generalize tb s=T
  simp [Zs,QQ,Qm,Qq,QJ,QK,QT,Qn,QN,y_c,QW,QI,ZE,QR,QX,QP,QV,QM,QS,ZH,ZD,Qp,ZF,QU,ZI,Qs,Qr,Qi,QZ,ZG,QY,QL,QO,Qu,Qx,Q0,Qw,Qt,Qv,Qj,evs,evO,Za,QE,Zm,eq_int,Zg,Zi,opU,ZA,biU,biL,slU,fin,t7]
 rw [Zq e7]
 have g1:=k6 _ _ g1
 have g2:=k6 _ _ g2
 have g3:=k6 _ _ g3
 have g5:=k6 _ _ g5
 have la:=Sm.add_le l1 l2
 have w:(10:Int) ^ 60<=10 ^ 200:=by decide
 have t8:Qd (tb s) (n+4) 9 [.ref r] hF=some (.bl true,hF):=Qfx (xx:=Zz (tbX s) 3) (s:=s) (n:=n+2) g6 la
 have t9:Qd (tb s) (n+4) 8 [.ref r,.ref cc] hF=some (.int (wr (m.add m') x) 0,hF):=Jl (xx:=Zz (tbX s) 3) (s:=s) (n:=n+3) la (l3.mono w) g6 g3
 rw [Qhg]at t9
 have e8:ex (tb s) (Qd (tb s) (n+4)) 92 Qj2 [some (.ref q),some (.int kd 0),some (.int M 0),some (.ref p),some (.ref p'),some (.ref cc),some (.ref v),b0,b1,b2,some (.ref r)] hF=some (.next,[some (.ref q),some (.int kd 0),some (.int M 0),some (.ref p),some (.ref p'),some (.ref cc),some (.ref v),b0,b1,b2,some (.ref r)],hF):=by
  generalize Qd (tb s) (n+4)=cf at t8 t9 ⊢
  generalize tb s=T
  simp [Qj2,Zs,QQ,Qm,Qq,QJ,QK,QT,Qn,QN,y_c,QW,QI,ZE,QR,QX,QP,QV,QM,QS,ZH,ZD,Qp,ZF,QU,ZI,Qs,Qr,Qi,QZ,ZG,QY,QL,QO,Qu,Qx,Q0,Qw,Qt,Qv,Qj,evs,evO,Za,QE,Zm,eq_int,Zg,Zi,opU,ZA,biU,biL,slU,fin,t8,t9,g5,atU,ixU,gz]
 rw [Zq e8]
 obtain⟨hG,k7,e9⟩:=QlJ (T:=tb s) (cf:=Qd (tb s) (n+4)) (o0:=some (.ref q)) (o1:=some (.int kd 0)) (o2:=some (.int M 0)) (o5:=some (.ref cc)) (o6:=some (.ref v)) (o7:=b0) (o8:=b1) (o9:=b2) g1 g2 g6
 rw [Zq e9]
 obtain⟨hH,k8,t10⟩:=QgV (s:=s) (n:=n) (k7 _ _ g1) (k7 _ _ g2) (k7 _ _ g3) l1 l2 l3
 refine⟨hH,((((((kA.trans k1).trans k2).trans k3).trans kE).trans k6).trans k7).trans k8,?_⟩
 have g5:=k7 _ _ g5
 have mu:=Zk (big (Qhf l1 l3)) (big (Qhf l2 l3))
 generalize Qd (tb s) (n+4)=cf at t10 ⊢
 generalize tb s=T
 simp [r13,Zs,QQ,Qm,Qq,QJ,QK,QT,Qn,QN,y_c,QW,QI,ZE,QR,QX,QP,QV,QM,QS,ZH,ZD,Qp,ZF,QU,ZI,Qs,Qr,Qi,QZ,ZG,QY,QL,QO,Qu,Qx,Q0,Qw,Qt,Qv,Qj,evs,evO,Za,QE,Zm,eq_int,Zg,Zi,opU,ZA,biU,biL,slU,fin,g5,atU,ixU,mu,t10]
end
section
variable {s:List U}{n p q:Nat}{hs:Hs}
theorem Qi1{k:Int}{ns:List Int}(h0:0<=k)(hq:hs[q]?=some (.lst (ns.map fun i=>.int i 0))):∃i,Qd (tb s) (n+1) 5 [.ref q,.int k 0] hs=some (.int i 0,hs):=by
 obtain⟨k,rfl⟩:=Int.eq_ofNat_of_zero_le h0
 rw [Q2 fnL[5] rfl rfl]
 show ∃i,fin (exs (tb s) (Qd (tb s) n) 100 b5 [some (.ref q),some (.int k 0)] hs)=_
 generalize Qd (tb s) n=cf
 generalize tb s=T
 by_cases z:k<ns.length
 ·have e:atU (ns.map fun i=>U.int i 0) (k:Int)=some (.int ns[k] 0):=by
   unfold atU ixU
   rw [if_pos (by lia),if_pos (by simp;lia)]
   simp [z]
  exact⟨ns[k],by simp [b5,Zs,QQ,Qm,Qq,QJ,QK,QT,Qn,QN,y_c,QW,QI,ZE,QR,QX,QP,QV,QM,QS,ZH,ZD,Qp,ZF,QU,ZI,Qs,Qr,Qi,QZ,ZG,QY,QL,QO,Qu,Qx,Q0,Qw,Qt,Qv,Qj,evs,evO,Za,QE,Zm,eq_int,Zg,Zi,opU,ZA,biU,biL,slU,fin,Z5,hq,z,e]⟩
 ·exact⟨0,by simp [b5,Zs,QQ,Qm,Qq,QJ,QK,QT,Qn,QN,y_c,QW,QI,ZE,QR,QX,QP,QV,QM,QS,ZH,ZD,Qp,ZF,QU,ZI,Qs,Qr,Qi,QZ,ZG,QY,QL,QO,Qu,Qx,Q0,Qw,Qt,Qv,Qj,evs,evO,Za,QE,Zm,eq_int,Zg,Zi,opU,ZA,biU,biL,slU,fin,Z5,hq,z]⟩
noncomputable def elL:E:=.call 5 [.var 1,.op .Add (.var 2) (.var 4)]
theorem Qhi{d i r:Nat}{k:Int}{o3:Option U}{acc:List U}{ns:List Int}(hq:hs[q]?=some (.lst (ns.map fun i=>.int i 0)))(hk:0<=k)(hi:i<14)(ha:acc.length<=20):∃c,
  Zy (tb s) (ev (tb s) (Qd (tb s) (n+1)) (d+20)) (YI (evT (tb s) (Qd (tb s) (n+1)) (d+20)) none) (.rng 0 14) false elL [some .scr,some (.ref q),some (.int k 0),o3] (r+1) i acc hs
   = Zy (tb s) (ev (tb s) (Qd (tb s) (n+1)) (d+20)) (YI (evT (tb s) (Qd (tb s) (n+1)) (d+20)) none) (.rng 0 14) false elL [some .scr,some (.ref q),some (.int k 0),o3] r (i+1) (acc++[.int c 0]) hs:=by
 have ha':acc.length<1000000:=by lia
 have ea:evs (ev (tb s) (Qd (tb s) (n+1)) (d+19)) [some .scr,some (.ref q),some (.int k 0),o3,some (.int (0+(i:Int)) 0)] [.var 1,.op .Add (.var 2) (.var 4)] hs=some ([.ref q,.int (k+(i:Int)) 0],hs):=by
  generalize Qd (tb s) (n+1)=cf
  generalize tb s=T
  simp [Zs,QQ,Qm,Qq,QJ,QK,QT,Qn,QN,y_c,QW,QI,ZE,QR,QX,QP,QV,QM,QS,ZH,ZD,Qp,ZF,QU,ZI,Qs,Qr,Qi,QZ,ZG,QY,QL,QO,Qu,Qx,Q0,Qw,Qt,Qv,Qj,evs,evO,Za,QE,Zm,eq_int,Zg,Zi,opU,ZA,biU,biL,slU,fin,gz]
 obtain⟨c,e⟩:=Qi1 (s:=s) (n:=n) (q:=q) (k:=k+(i:Int)) (ns:=ns) (hs:=hs) (by lia) hq
 refine⟨c,?_⟩
 rw [Zy]
 simp only [itm,if_pos hi,tgt,tgN,Qbq,YI,Zs,if_pos ha']
 show(bd (ev (tb s) (Qd (tb s) (n+1)) (d+20) elL [some .scr,some (.ref q),some (.int k 0),o3,some (.int (0+(i:Int)) 0)] hs) fun u h2=>Zy _ _ _ _ _ _ _ r (i+1) (acc++[u]) h2)=_
 unfold elL
 rw [Qp,ea,Zs,e,Zs]
theorem Qhj{d:Nat}{k:Int}{o3:Option U}{ns:List Int}(hq:hs[q]?=some (.lst (ns.map fun i=>.int i 0)))(hk:0<=k):∀(r i:Nat) (acc:List U),i+r=14->acc.length=i->(∀u∈acc,∃c,u=.int c 0)->∃us,us.length=14/\(∀u∈us,∃c,u=.int c 0) /\
  Zy (tb s) (ev (tb s) (Qd (tb s) (n+1)) (d+20)) (YI (evT (tb s) (Qd (tb s) (n+1)) (d+20)) none) (.rng 0 14) false elL [some .scr,some (.ref q),some (.int k 0),o3] (r+1) i acc hs=some (us,hs)
 | 0,i,acc,hi,hl,ha=>⟨acc,by lia,ha,by
  have z:¬i<14:=by lia
  rw [Zy];simp only [itm,if_neg z]⟩
 | r+1,i,acc,hi,hl,ha=>by
  obtain⟨c,e⟩:=Qhi (s:=s) (n:=n) (d:=d) (r:=r+1) (o3:=o3) (acc:=acc) (hs:=hs) hq hk (i:=i) (by lia) (by lia)
  obtain⟨us,l,al,e'⟩:=Qhj (d:=d) (o3:=o3) hq hk r (i+1) (acc++[.int c 0]) (by lia) (by simp [hl]) (fun u hu=>by
   rcases List.mem_append.mp hu with hu | hu
   ·exact ha u hu
   ·simp at hu;exact⟨c,hu⟩)
  exact⟨us,l,al,e.trans e'⟩
noncomputable def csN(c:Nat->Int):Nat->Nat->List U
 | _,0=>[]
 | k,n+1=>.int (c k) 0::csN c (k+1) n
theorem Qft(c:Nat->Int):∀(L:List Int) (k:Nat),(∀i,c (k+i)=L.getD i 0)->iL L=csN c k L.length
 | [],_,_=>rfl
 | a::r,k,h=>by
  show U.int a 0::iL r=.int (c k) 0::csN c (k+1) r.length
  rw [show c k=a from h 0,Qft c r (k+1) fun i=>by rw [Nat.add_assoc,Nat.add_comm 1];exact h (i+1)]
theorem QcT:∀us:List U,(∀u∈us,∃c,u=.int c 0)->∃L:List Int,us=iL L
 | [],_=>⟨[],rfl⟩
 | u::r,h=>by
  obtain⟨c,e⟩:=h u List.mem_cons_self
  obtain⟨L,e'⟩:=QcT r fun u m=>h u (List.mem_cons_of_mem _ m)
  exact⟨c::L,by rw [e,e'];rfl⟩
theorem QkT{us:List U}(l:us.length=14)(h:∀u∈us,∃c,u=.int c 0):∃c,us=QbL c:=by
 obtain⟨L,rfl⟩:=QcT us h
 rw [List.length_map]at l
 refine⟨fun i=>L.getD i 0,?_⟩
 rw [Qft (fun i=>L.getD i 0) L 0 fun i=>by rw [Nat.zero_add],l]
 rfl
noncomputable def sP:S:=.set 3 (.comp (.rng (.c (.int 14 0))) false none elL)
noncomputable def sT:S:=.ite (.not (.call 13 [.var 3,.op .Add (.op .FloorDiv (.op .Mod (.bi .sum [.var 3]) (.op .Pow (.c (.int 10 0)) (.c (.int 9 0)))) (.c (.int 3 0))) (.var 2)])) [.ret (.c (.bl false))] []
theorem QiH{c:Nat->Int}:∃l,YG (QbL c)=some l:=⟨_,rfl⟩
theorem Qiy{k:Int}{o3:Option U}{ns:List Int}(hq:hs[0]?=some (.lst (ns.map fun i=>.int i 0)))(hk:0<=k):
  ∃o3' hs',hs'[0]?=some (.lst (ns.map fun i=>.int i 0))/\exs (tb s) (Qd (tb s) (n+5)) 97 [sP,sT] [some .scr,some (.ref 0),some (.int k 0),o3] hs=some (.next,[some .scr,some (.ref 0),some (.int k 0),o3'],hs'):=by
 obtain⟨us,l1,a1,e1⟩:=Qhj (s:=s) (n:=n+4) (d:=74) (o3:=o3) hq hk 14 0 [] rfl rfl (fun u hu=>by cases hu)
 obtain⟨c,rfl⟩:=QkT l1 a1
 obtain⟨l,il⟩:=QiH (c:=c)
 have k0:(hs++[.lst (QbL c)])[0]?=some (.lst (ns.map fun i=>.int i 0)):=QcM hq
 obtain⟨h2,k2,e2⟩:=QiZ (s:=s) (n:=n) (kd:=l.sum % 1000000000 / 3+k) (c:=c) (hs:=hs++[.lst (QbL c)]) (q:=hs.length) at0
 simp only [Nat.reduceAdd]at e1
 have s56:Ql 56=true:=by decide
 have pw:Qjl (.int 10 0) (.int 9 0)=some (.int 1000000000 0):=rfl
 refine⟨some (.ref hs.length),h2,k2 _ _ k0,?_⟩
 have x1:ex (tb s) (Qd (tb s) (n+5)) 96 sP [some .scr,some (.ref 0),some (.int k 0),o3] hs=some (.next,[some .scr,some (.ref 0),some (.int k 0),some (.ref hs.length)],hs++[.lst (QbL c)]):=by
  generalize Qd (tb s) (n+5)=cf at e1 ⊢
  generalize tb s=T at e1 ⊢
  simp [sP,Zs,QQ,Qm,Qq,QJ,QK,QT,Qn,QN,y_c,QW,QI,ZE,QR,QX,QP,QV,QM,QS,ZH,ZD,Qp,ZF,QU,ZI,Qs,Qr,Qi,QZ,ZG,QY,QL,QO,Qu,Qx,Q0,Qw,Qt,Qv,Qj,evs,evO,Za,QE,Zm,eq_int,Zg,Zi,opU,ZA,biU,biL,slU,fin,s56,e1]
 rw [Zq x1]
 generalize Qd (tb s) (n+5)=cf at e2 ⊢
 generalize tb s=T
 simp [sT,Zs,QQ,Qm,Qq,QJ,QK,QT,Qn,QN,y_c,QW,QI,ZE,QR,QX,QP,QV,QM,QS,ZH,ZD,Qp,ZF,QU,ZI,Qs,Qr,Qi,QZ,ZG,QY,QL,QO,Qu,Qx,Q0,Qw,Qt,Qv,Qj,evs,evO,Za,QE,Zm,eq_int,Zg,Zi,opU,ZA,biU,biL,slU,fin,Zb,at0,il,pw,Qer,QiT,gz,e2]
noncomputable def lpS:Src:=.rngA [.c (.int 0 0),.op .Add (.bi .len [.var 1]) (.c (.int 1 0)),.c (.int 14 0)]
theorem Qfh{ns:List Int}{N:Nat}:∀(m i:Nat) (o2 o3:Option U) (hs:Hs),hs[0]?=some (.lst (ns.map fun i=>.int i 0))->i+m=N ->
  ∃ρ' hs',Qaa (tb s) (.rngC 0 14 N) (.name 2) (exs (tb s) (Qd (tb s) (n+5)) 97 [sP,sT]) (m+1) i [some .scr,some (.ref 0),o2,o3] hs=some (.next,ρ',hs')
 | 0,i,o2,o3,hs,_,hi=>by
  have z:¬i<N:=by lia
  exact⟨[some .scr,some (.ref 0),o2,o3],hs,by rw [Qaa];simp only [itm,if_neg z]⟩
 | m+1,i,o2,o3,hs,hq,hi=>by
  have z:i<N:=by lia
  obtain⟨p3,hs',hq',e⟩:=Qiy (s:=s) (n:=n) (k:=0+(i:Int)*14) (o3:=o3) (hs:=hs) hq (by lia)
  obtain⟨ρ',h',ih⟩:=Qfh (ns:=ns) (N:=N) m (i+1) (some (.int (0+(i:Int)*14) 0)) p3 hs' hq' (by lia)
  refine⟨ρ',h',?_⟩
  rw [Qaa]
  simp only [itm,if_pos z,tgt]
  show(match exs (tb s) (Qd (tb s) (n+5)) 97 [sP,sT] [some .scr,some (.ref 0),some (.int (0+(i:Int)*14) 0),o3] hs with
    | some (.next,ρ2,h2)=>Qaa (tb s) (.rngC 0 14 N) (.name 2) (exs (tb s) (Qd (tb s) (n+5)) 97 [sP,sT]) (m+1) (i+1) ρ2 h2
    | some (.cont,ρ2,h2)=>Qaa (tb s) (.rngC 0 14 N) (.name 2) (exs (tb s) (Qd (tb s) (n+5)) 97 [sP,sT]) (m+1) (i+1) ρ2 h2
    | some (.brk,ρ2,h2)=>some (.next,ρ2,h2)
    | r=>r)=_
  rw [e]
  exact ih
end
theorem comp(ns:List Int)(hl:ns.length<=63):∃s hs',Paired (fun(u:U) (i:Int)=>∃r m,u=.int r m/\∃q:Int,i=r+m*q) s ns/\Qd (tb s) 6 14 [.scr] []=some (.bl true,hs'):=by
 refine⟨ns.map fun i=>.int i 0,?_⟩
 have pr:∀ns:List Int,Paired (fun(u:U) (i:Int)=>∃r m,u=.int r m/\∃q:Int,i=r+m*q) (ns.map fun i=>.int i 0) ns:=fun ns=>by
  induction ns with
  | nil=>exact .nil
  | cons i r ih=>exact .cons ⟨i,0,rfl,0,by simp⟩ ih
 generalize hs0:(ns.map fun i=>U.int i 0)=s
 have hs1:(tb s).scr=s:=rfl
 have cut:YF s none (some 84)=(YF ns none (some 84)).map fun i=>.int i 0:=by
  rw [<-hs0];simp [YF]
 have cl:(YF ns none (some 84)).length<=63:=by simp [YF];lia
 generalize hc:YF ns none (some 84)=cs at cut cl
 obtain⟨ρ',h',lp⟩:=Qfh (s:=s) (n:=0) (ns:=cs) (N:=Qd7 0 ((cs.length:Int)+1) 14) (Qd7 0 ((cs.length:Int)+1) 14) 0 none none [.lst (cs.map fun i=>.int i 0)] rfl (by lia)
 refine⟨h',hs0▸pr ns,?_⟩
 rw [Q2 fnL[14] rfl rfl]
 show fin (exs (tb s) (Qd (tb s) 5) 100 b14 [some .scr,none,none,none] [])=_
 have eb:b14=[.set 1 (.sl (.var 0) none (some (.c (.int 84 0)))),.loop (.name 2) lpS [sP,sT],.ret (.c (.bl true))]:=rfl
 rw [eb]
 have x0:ex (tb s) (Qd (tb s) 5) 99 (.set 1 (.sl (.var 0) none (some (.c (.int 84 0))))) [some .scr,none,none,none] []=some (.next,[some .scr,some (.ref 0),none,none],[.lst (cs.map fun i=>.int i 0)]):=by
  generalize Qd (tb s) 5=cf
  simp [Zs,evs,evO,y_c,QJ,QI,ZD,slU,hs1,cut]
 rw [Zq x0]
 have sm0:Ql 0=true:=by decide
 have sm1:Ql (((cs.length:Int)+1)*16)=true:=by
  unfold Ql
  rw [decide_eq_true (by lia),decide_eq_true (by lia)]
  rfl
 have cd:(Ql (0*16)&&Ql (((cs.length:Int)+1)*16)&&decide ((0:Int) < 14)&&decide ((14:Int) < 1073741824))=true:=by
  rw [sm1,show Ql (0*16)=true from sm0]
  rfl
 have ee:evs (ev (tb s) (Qd (tb s) 5) 97) [some .scr,some (.ref 0),none,none] [.c (.int 0 0),.op .Add (.bi .len [.var 1]) (.c (.int 1 0)),.c (.int 14 0)] [.lst (cs.map fun i=>.int i 0)]=some ([.int 0 0,.int ((cs.length:Int)+1) 0,.int 14 0],[.lst (cs.map fun i=>.int i 0)]):=by
  generalize Qd (tb s) 5=cf
  simp [Zs,evs,evO,y_c,ZE,ZF,QI,biU,Z5,opU,ZA,gz]
 have sr:=Qhe (T:=tb s) ee cd
 have x1:ex (tb s) (Qd (tb s) 5) 98 (.loop (.name 2) lpS [sP,sT]) [some .scr,some (.ref 0),none,none] [.lst (cs.map fun i=>.int i 0)]=some (.next,ρ',h'):=by
  unfold lpS
  rw [Qn,sr,Zs]
  exact lp
 rw [Zq x1,Qm,QK,y_c,Zs]
 rfl
theorem ar1{α:Type}{P:List α->Prop}(h:∀a,P [a]):∀us:List α,us.length=1->P us | [a],_=>h a
theorem ar2{α:Type}{P:List α->Prop}(h:∀a0 a1,P [a0,a1]):∀us:List α,us.length=2->P us | b::r,e=>ar1 (P:=fun l=>P (b::l)) (fun a1=>h b a1) r (Nat.succ.inj e)
theorem ar3{α:Type}{P:List α->Prop}(h:∀a0 a1 a2,P [a0,a1,a2]):∀us:List α,us.length=3->P us | b::r,e=>ar2 (P:=fun l=>P (b::l)) (fun a1 a2=>h b a1 a2) r (Nat.succ.inj e)
theorem ar4{α:Type}{P:List α->Prop}(h:∀a0 a1 a2 a3,P [a0,a1,a2,a3]):∀us:List α,us.length=4->P us | b::r,e=>ar3 (P:=fun l=>P (b::l)) (fun a1 a2 a3=>h b a1 a2 a3) r (Nat.succ.inj e)
theorem sc0:FnScope N0 ["one","other"] (Qa st0):=⟨rfl,rfl,rfl,by decide +kernel,rfl,by decide +kernel,by decide +kernel⟩
theorem sc1:FnScope N1 ["one","other"] (Qa st1):=⟨rfl,rfl,rfl,by decide +kernel,rfl,by decide +kernel,by decide +kernel⟩
theorem sc2:FnScope N2 ["one","often"] (Qa st2):=⟨rfl,rfl,rfl,by decide +kernel,rfl,by decide +kernel,by decide +kernel⟩
theorem sc3:FnScope N3 ["one","choice"] (Qa st3):=⟨rfl,rfl,rfl,by decide +kernel,rfl,by decide +kernel,by decide +kernel⟩
theorem sc4:FnScope N4 ["one"] (Qa st4):=⟨rfl,rfl,rfl,by decide +kernel,rfl,by decide +kernel,by decide +kernel⟩
theorem sc5:FnScope N5 ["_law_script","_law_k"] (Qa st5):=⟨rfl,rfl,rfl,by decide +kernel,rfl,by decide +kernel,by decide +kernel⟩
theorem sc6:FnScope N6 ["_law_found"] (Qa st6):=⟨rfl,rfl,rfl,by decide +kernel,rfl,by decide +kernel,by decide +kernel⟩
theorem sc7:FnScope N7 ["_law_cells","_law_most","_law_sizeless"] (Qa st7):=⟨rfl,rfl,rfl,by decide +kernel,rfl,by decide +kernel,by decide +kernel⟩
theorem sc8:FnScope N8 ["_law_one","_law_choice"] (Qa st8):=⟨rfl,rfl,rfl,by decide +kernel,rfl,by decide +kernel,by decide +kernel⟩
theorem sc9:FnScope N9 ["_law_found"] (Qa st9):=⟨rfl,rfl,rfl,by decide +kernel,rfl,by decide +kernel,by decide +kernel⟩
theorem Ql0:FnScope N10 ["_law_one"] (Qa QdI):=⟨rfl,rfl,rfl,by decide +kernel,rfl,by decide +kernel,by decide +kernel⟩
theorem QlZ:FnScope N11 ["_law_one","_law_other"] (Qa QdH):=⟨rfl,rfl,rfl,by decide +kernel,rfl,by decide +kernel,by decide +kernel⟩
theorem QlY:FnScope N12 ["_law_one","_law_other","_law_due","_law_choice"] (Qa QdG):=⟨rfl,rfl,rfl,by decide +kernel,rfl,by decide +kernel,by decide +kernel⟩
theorem QlX:FnScope N13 ["_law_cells","_law_kind"] (Qa QdF):=⟨rfl,rfl,rfl,by decide +kernel,rfl,by decide +kernel,by decide +kernel⟩
theorem QlW:FnScope N14 ["_law_script"] (Qa QbX):=⟨rfl,rfl,rfl,by decide +kernel,rfl,by decide +kernel,by decide +kernel⟩
noncomputable abbrev BO(T:Tbl)(N:List Str)(st:Stmt)(l:Bool)(b:List S):Prop:=compSs 100 ⟨T,N,(Qa st).names,glo,Qju,l⟩ (Qg st)=some b
theorem bo0(s:List U)(x:Nat->List U->Hs->Option (Nat×Hs)):BO { tbX s with xf:=x } N0 st0 false b0:=by kernel_rfl
theorem bo1(s:List U)(x:Nat->List U->Hs->Option (Nat×Hs)):BO { tbX s with xf:=x } N1 st1 false b1:=by kernel_rfl
theorem bo2(s:List U)(x:Nat->List U->Hs->Option (Nat×Hs)):BO { tbX s with xf:=x } N2 st2 false b2:=by kernel_rfl
theorem bo3(s:List U)(x:Nat->List U->Hs->Option (Nat×Hs)):BO { tbX s with xf:=x } N3 st3 false b3:=by kernel_rfl
theorem bo4(s:List U)(x:Nat->List U->Hs->Option (Nat×Hs)):BO { tbX s with xf:=x } N4 st4 false b4:=by kernel_rfl
theorem bo5(s:List U)(x:Nat->List U->Hs->Option (Nat×Hs)):BO { tbX s with xf:=x } N5 st5 false b5:=by kernel_rfl
theorem bo6(s:List U)(x:Nat->List U->Hs->Option (Nat×Hs)):BO { tbX s with xf:=x } N6 st6 false b6:=by kernel_rfl
theorem bo7(s:List U)(x:Nat->List U->Hs->Option (Nat×Hs)):BO { tbX s with xf:=x } N7 st7 false b7:=by kernel_rfl
theorem bo8(s:List U)(x:Nat->List U->Hs->Option (Nat×Hs)):BO { tbX s with xf:=x } N8 st8 false b8:=by kernel_rfl
theorem bo9(s:List U)(x:Nat->List U->Hs->Option (Nat×Hs)):BO { tbX s with xf:=x } N9 st9 false b9:=by kernel_rfl
theorem QmH(s:List U)(x:Nat->List U->Hs->Option (Nat×Hs)):BO { tbX s with xf:=x } N10 QdI false b10:=by kernel_rfl
theorem QmG(s:List U)(x:Nat->List U->Hs->Option (Nat×Hs)):BO { tbX s with xf:=x } N11 QdH false b11:=by kernel_rfl
theorem QmF(s:List U)(x:Nat->List U->Hs->Option (Nat×Hs)):BO { tbX s with xf:=x } N12 QdG false b12:=by kernel_rfl
theorem QmE(s:List U)(x:Nat->List U->Hs->Option (Nat×Hs)):BO { tbX s with xf:=x } N13 QdF false b13:=by kernel_rfl
theorem QmD(s:List U)(x:Nat->List U->Hs->Option (Nat×Hs)):BO { tbX s with xf:=x } N14 QbX true b14:=by kernel_rfl
theorem Qdw(s:List U)(x:Nat->List U->Hs->Option (Nat×Hs)):YE { tbX s with xf:=x } glo Qju:=Qdv (.cons (bo0 s x) (.cons (bo1 s x) (.cons (bo2 s x) (.cons (bo3 s x) (.cons (bo4 s x) (.cons (bo5 s x) (.cons (bo6 s x) (.cons (bo7 s x) (.cons (bo8 s x) (.cons (bo9 s x) (.cons (QmH s x) (.cons (QmG s x) (.cons (QmF s x) (.cons (QmE s x) (.cons (QmD s x) .nil)))))))))))))))
theorem Qi4(s:List U):YE (tb s) glo Qju:=Qdw s _
noncomputable abbrev fI(K:W.Frag)(c:Addr)(x:Str)(v:Option Value):Prop:=W.findIn K (.ref c) x=some v
noncomputable abbrev kO(K:W.Frag)(c d:Addr)(b:Bool):Prop:=W.kitOne K (.ref c) (.ref d)=some b
theorem all_mk{l:W.OpenLaw}{w:World}{K:W.Frag}{h:Heap}{mg:Str->Option Value}{f0 f1 f2 f3 f4 f5 f6 f7 f8 f9 f10 f11 f12 f13 f14 f15 c0 c1 c2 c3 c4 c5 c6 fa:Addr}(X:K.In h)(G:h.Ns mainGlobals mg)(hfa:mg "law"=some (.ref fa))
  {od0 od1 od2 od3 od4 od5 od6 od7 od8 od9 od10 od11 od12 od13 od14 od15 an0 an1 an2 an3 an4 an5 an6 an7 an8 an9 an10 an11 an12 an13 an14 an15:Option Addr} {sl0 sl1 sl2 sl3 sl4 sl5 sl6 sl7 sl8 sl9 sl10 sl11 sl12 sl13 sl14 sl15:Array (Option Value)} {oc0 oc1 oc2 oc3 oc4 oc5 oc6 oc7 oc8 oc9 oc10 oc11 oc12 oc13 oc14 oc15 kV0 kV1 kV2 kV3 kV4 kV5 kV6 kV7 kV8 kV9 kV10 kV11 kV12 kV13 kV14 kV15 dc0 dc1 dc2 dc3 dc4 dc5 dc6 dc7 dc8 dc9 dc10 dc11 dc12 dc13 dc14 dc15 pm0 pm1 pm2 pm3 pm4 pm5 pm6 pm7 pm8 pm9 pm10 pm11 pm12 pm13 pm14 pm15 cd0 cd1 cd2 cd3 cd4 cd5 cd6 cd7 cd8 cd9 cd10 cd11 cd12 cd13 cd14 cd15 ct0 ct1 ct2 ct3 ct4 ct5 ct6 ct7 ct8 ct9 ct10 ct11 ct12 ct13 ct14 ct15:Value}
  {dt15:Addr} {dn15:Nat}
  (a0:W.nsIn K mainGlobals "total"=some (some (.ref f0)))
  (l0:K.lookup f0=some ⟨oc0,od0,.func (W.fnOf "total" "total" (Qh st0) (Qg st0) (Qa st0) .none kV0 dc0 pm0 an0 cd0 ct0),sl0⟩)
  (e0:W.codeIn K cd0 "total"=true)
  (k0:W.keepIn K (.ref f0)=true)
  (a1:W.nsIn K mainGlobals "product"=some (some (.ref f1)))
  (l1:K.lookup f1=some ⟨oc1,od1,.func (W.fnOf "product" "product" (Qh st1) (Qg st1) (Qa st1) .none kV1 dc1 pm1 an1 cd1 ct1),sl1⟩)
  (e1:W.codeIn K cd1 "product"=true)
  (k1:W.keepIn K (.ref f1)=true)
  (a2:W.nsIn K mainGlobals "repeated"=some (some (.ref f2)))
  (l2:K.lookup f2=some ⟨oc2,od2,.func (W.fnOf "repeated" "repeated" (Qh st2) (Qg st2) (Qa st2) .none kV2 dc2 pm2 an2 cd2 ct2),sl2⟩)
  (e2:W.codeIn K cd2 "repeated"=true)
  (k2:W.keepIn K (.ref f2)=true)
  (a3:W.nsIn K mainGlobals "worth"=some (some (.ref f3)))
  (l3:K.lookup f3=some ⟨oc3,od3,.func (W.fnOf "worth" "worth" (Qh st3) (Qg st3) (Qa st3) .none kV3 dc3 pm3 an3 cd3 ct3),sl3⟩)
  (e3:W.codeIn K cd3 "worth"=true)
  (k3:W.keepIn K (.ref f3)=true)
  (a4:W.nsIn K mainGlobals "is_sized"=some (some (.ref f4)))
  (l4:K.lookup f4=some ⟨oc4,od4,.func (W.fnOf "is_sized" "is_sized" (Qh st4) (Qg st4) (Qa st4) .none kV4 dc4 pm4 an4 cd4 ct4),sl4⟩)
  (e4:W.codeIn K cd4 "is_sized"=true)
  (k4:W.keepIn K (.ref f4)=true)
  (a5:W.nsIn K mainGlobals "_law_cell_at"=some (some (.ref f5)))
  (l5:K.lookup f5=some ⟨oc5,od5,.func (W.fnOf "_law_cell_at" "_law_cell_at" (Qh st5) (Qg st5) (Qa st5) .none kV5 dc5 pm5 an5 cd5 ct5),sl5⟩)
  (e5:W.codeIn K cd5 "_law_cell_at"=true)
  (k5:W.keepIn K (.ref f5)=true)
  (a6:W.nsIn K mainGlobals "_law_whole"=some (some (.ref f6)))
  (l6:K.lookup f6=some ⟨oc6,od6,.func (W.fnOf "_law_whole" "_law_whole" (Qh st6) (Qg st6) (Qa st6) .none kV6 dc6 pm6 an6 cd6 ct6),sl6⟩)
  (e6:W.codeIn K cd6 "_law_whole"=true)
  (k6:W.keepIn K (.ref f6)=true)
  (a7:W.nsIn K mainGlobals "_law_sum_by"=some (some (.ref f7)))
  (l7:K.lookup f7=some ⟨oc7,od7,.func (W.fnOf "_law_sum_by" "_law_sum_by" (Qh st7) (Qg st7) (Qa st7) .none kV7 dc7 pm7 an7 cd7 ct7),sl7⟩)
  (e7:W.codeIn K cd7 "_law_sum_by"=true)
  (k7:W.keepIn K (.ref f7)=true)
  (a8:W.nsIn K mainGlobals "_law_worth"=some (some (.ref f8)))
  (l8:K.lookup f8=some ⟨oc8,od8,.func (W.fnOf "_law_worth" "_law_worth" (Qh st8) (Qg st8) (Qa st8) .none kV8 dc8 pm8 an8 cd8 ct8),sl8⟩)
  (e8:W.codeIn K cd8 "_law_worth"=true)
  (k8:W.keepIn K (.ref f8)=true)
  (a9:W.nsIn K mainGlobals "_law_sum_told"=some (some (.ref f9)))
  (l9:K.lookup f9=some ⟨oc9,od9,.func (W.fnOf "_law_sum_told" "_law_sum_told" (Qh st9) (Qg st9) (Qa st9) .none kV9 dc9 pm9 an9 cd9 ct9),sl9⟩)
  (e9:W.codeIn K cd9 "_law_sum_told"=true)
  (k9:W.keepIn K (.ref f9)=true)
  (a10:W.nsIn K mainGlobals "_law_sized"=some (some (.ref f10)))
  (l10:K.lookup f10=some ⟨oc10,od10,.func (W.fnOf "_law_sized" "_law_sized" (Qh QdI) (Qg QdI) (Qa QdI) .none kV10 dc10 pm10 an10 cd10 ct10),sl10⟩)
  (e10:W.codeIn K cd10 "_law_sized"=true)
  (k10:W.keepIn K (.ref f10)=true)
  (a11:W.nsIn K mainGlobals "_law_refused"=some (some (.ref f11)))
  (l11:K.lookup f11=some ⟨oc11,od11,.func (W.fnOf "_law_refused" "_law_refused" (Qh QdH) (Qg QdH) (Qa QdH) .none kV11 dc11 pm11 an11 cd11 ct11),sl11⟩)
  (e11:W.codeIn K cd11 "_law_refused"=true)
  (k11:W.keepIn K (.ref f11)=true)
  (a12:W.nsIn K mainGlobals "_law_product"=some (some (.ref f12)))
  (l12:K.lookup f12=some ⟨oc12,od12,.func (W.fnOf "_law_product" "_law_product" (Qh QdG) (Qg QdG) (Qa QdG) .none kV12 dc12 pm12 an12 cd12 ct12),sl12⟩)
  (e12:W.codeIn K cd12 "_law_product"=true)
  (k12:W.keepIn K (.ref f12)=true)
  (a13:W.nsIn K mainGlobals "_law_time"=some (some (.ref f13)))
  (l13:K.lookup f13=some ⟨oc13,od13,.func (W.fnOf "_law_time" "_law_time" (Qh QdF) (Qg QdF) (Qa QdF) .none kV13 dc13 pm13 an13 cd13 ct13),sl13⟩)
  (e13:W.codeIn K cd13 "_law_time"=true)
  (k13:W.keepIn K (.ref f13)=true)
  (a14:W.nsIn K mainGlobals "law"=some (some (.ref f14)))
  (l14:K.lookup f14=some ⟨oc14,od14,.func (W.fnOf "law" "law" (Qh QbX) (Qg QbX) (Qa QbX) .none kV14 dc14 pm14 an14 cd14 ct14),sl14⟩)
  (e14:W.codeIn K cd14 "law"=true)
  (k14:W.keepIn K (.ref f14)=true)
  (hn:W.specialIn K (.builtin "object.__class__") "__get__"=some (some (.builtin "getset_descriptor.__get__")))
  (htk:W.takesIn K (.builtin "object.__class__")=some true)
  (n0:W.nsIn K mainGlobals "StitchError"=some (some (.ref c0)))
  (n1:W.nsIn K mainGlobals "NoStitch"=some (some (.ref c1)))
  (n2:W.nsIn K mainGlobals "NoSum"=some (some (.ref c2)))
  (n3:W.nsIn K mainGlobals "NoPattern"=some (some (.ref c3)))
  (n4:W.nsIn K mainGlobals "TooMany"=some (some (.ref c4)))
  (n5:W.nsIn K mainGlobals "Miscount"=some (some (.ref c5)))
  (n6:W.nsIn K mainGlobals "Tangle"=some (some (.ref c6)))
  (va2:fI K c2 "__getattribute__" (some (.builtin "BaseException.__getattribute__")))
  (vb2:fI K c2 "__getattr__" none)
  (vc2:fI K c2 "__class__" (some (.builtin "object.__class__")))
  (vd2:W.subIn K (.ref c2) (.type "BaseException")=some true)
  (ve2:W.subIn K (.ref c2) (.type "object")=some true)
  (vf2:(W.clsIn K c2).isSome=true)
  (a15:fI K c2 "__init__" (some (.ref f15)))
  (l15:K.lookup f15=some ⟨oc15,od15,.func (W.fnOf "__init__" "NoSum.__init__" (Qh Qg7) (Qg Qg7) (Qa Qg7) (.ref dt15) kV15 dc15 pm15 an15 cd15 ct15),sl15⟩)
  (dd15:K.lookup dt15=some ⟨.type "tuple",none,.seq #[.none] dn15,#[]⟩)
  (e15:W.codeIn K cd15 "NoSum.__init__"=true)
  (wq2:QbE K c2 f15=true)
  (wf2:W.isFn K (.ref f15)=true)
  (wk2:W.keepIn K (.ref c2)=true)
  (wa2:W.specialIn K (.ref c0) "__getattribute__"=some (some (.builtin "type.__getattribute__")))
  (wr2:W.readsIn K c0 (.type "type")=true)
  (wc2:W.findCls K (.ref c0) (.type "type") "__init__"=some (.val (.builtin "ValueError.__init__")))
  (ws2:fI K c2 "__setattr__" (some (.builtin "object.__setattr__")))
  (wo2:Jz K c2=true)
  (wx2:fI K c2 "row" none)
  (wh2:W.hasDictIn K c2=true)
  (vh2_2:W.exmOne K (.ref c2) (.ref c2)=some true)
  (vh2_0:W.exmOne K (.ref c2) (.ref c0)=some true)
  (s2_1:kO K c2 c1 false)
  (s2_2:kO K c2 c2 true)
  (s2_3:kO K c2 c3 false)
  (s2_4:kO K c2 c4 false)
  (s2_5:kO K c2 c5 false)
  (s2_6:kO K c2 c6 false)
  (s2_ve:W.kitOne K (.ref c2) (.type "ValueError")=some true)
  (z_len:W.nsIn K mainGlobals "len"=some none)
  (z_int:W.nsIn K mainGlobals "int"=some none)
  (z_tuple:W.nsIn K mainGlobals "tuple"=some none)
  (z_list:W.nsIn K mainGlobals "list"=some none)
  (z_bool:W.nsIn K mainGlobals "bool"=some none)
  (z_isinstance:W.nsIn K mainGlobals "isinstance"=some none)
  (z_range:W.nsIn K mainGlobals "range"=some none)
  (z_zip:W.nsIn K mainGlobals "zip"=some none)
  (z_sum:W.nsIn K mainGlobals "sum"=some none)
  (z_any:W.nsIn K mainGlobals "any"=some none)
  (z_ValueError:W.nsIn K mainGlobals "ValueError"=some none):
  ∃ fd : FuncData, (∀ (s : Shared) (v : Value), BindsTo s fd ⟨[v], []⟩ [("_law_script", v)]) /\ ∀ base : Heap, K.In base -> base.Ns mainGlobals mg -> FnOk l.prog w K mg base CX0 (0 + 2 + 2 * 3 + 2 * 6) fa fd ["_law_script"] (Qd0 K) := by
 have e:=hfa.symm.trans (W.mg_of X G a14)
 cases e
 let adr:Addr->Adr:=fun a=>⟨fun i=>[f0,f1,f2,f3,f4,f5,f6,f7,f8,f9,f10,f11,f12,f13,f14].getD i 0,fun i=>[c0,c1,c2,c3,c4,c5,c6].getD i 0,fun i=>[].getD i 0,a⟩
 have F0:=Q5 (st:=st0) l0 e0 k0
 have B0:=Zr F0 (ps:=["one","other"]) (ar2 fun _ _=>rfl)
 have F1:=Q5 (st:=st1) l1 e1 k1
 have B1:=Zr F1 (ps:=["one","other"]) (ar2 fun _ _=>rfl)
 have F2:=Q5 (st:=st2) l2 e2 k2
 have B2:=Zr F2 (ps:=["one","often"]) (ar2 fun _ _=>rfl)
 have F3:=Q5 (st:=st3) l3 e3 k3
 have B3:=Zr F3 (ps:=["one","choice"]) (ar2 fun _ _=>rfl)
 have F4:=Q5 (st:=st4) l4 e4 k4
 have B4:=Zr F4 (ps:=["one"]) (ar1 fun _=>rfl)
 have F5:=Q5 (st:=st5) l5 e5 k5
 have B5:=Zr F5 (ps:=["_law_script","_law_k"]) (ar2 fun _ _=>rfl)
 have F6:=Q5 (st:=st6) l6 e6 k6
 have B6:=Zr F6 (ps:=["_law_found"]) (ar1 fun _=>rfl)
 have F7:=Q5 (st:=st7) l7 e7 k7
 have B7:=Zr F7 (ps:=["_law_cells","_law_most","_law_sizeless"]) (ar3 fun _ _ _=>rfl)
 have F8:=Q5 (st:=st8) l8 e8 k8
 have B8:=Zr F8 (ps:=["_law_one","_law_choice"]) (ar2 fun _ _=>rfl)
 have F9:=Q5 (st:=st9) l9 e9 k9
 have B9:=Zr F9 (ps:=["_law_found"]) (ar1 fun _=>rfl)
 have F10:=Q5 (st:=QdI) l10 e10 k10
 have B10:=Zr F10 (ps:=["_law_one"]) (ar1 fun _=>rfl)
 have F11:=Q5 (st:=QdH) l11 e11 k11
 have B11:=Zr F11 (ps:=["_law_one","_law_other"]) (ar2 fun _ _=>rfl)
 have F12:=Q5 (st:=QdG) l12 e12 k12
 have B12:=Zr F12 (ps:=["_law_one","_law_other","_law_due","_law_choice"]) (ar4 fun _ _ _ _=>rfl)
 have F13:=Q5 (st:=QdF) l13 e13 k13
 have B13:=Zr F13 (ps:=["_law_cells","_law_kind"]) (ar2 fun _ _=>rfl)
 have F14:=Q5 (st:=QbX) l14 e14 k14
 have B14:=Zr F14 (ps:=["_law_script"]) (ar1 fun _=>rfl)
 have tp:∀(s:List U) (a:Addr),Top (tbX s) (adr a) K mg glo Qju:=fun s a=>Qhl
  (.cons ⟨_,F0,B0,sc0,rfl,rfl⟩ (.cons ⟨_,F1,B1,sc1,rfl,rfl⟩ (.cons ⟨_,F2,B2,sc2,rfl,rfl⟩ (.cons ⟨_,F3,B3,sc3,rfl,rfl⟩ (.cons ⟨_,F4,B4,sc4,rfl,rfl⟩ (.cons ⟨_,F5,B5,sc5,rfl,rfl⟩ (.cons ⟨_,F6,B6,sc6,rfl,rfl⟩ (.cons ⟨_,F7,B7,sc7,rfl,rfl⟩ (.cons ⟨_,F8,B8,sc8,rfl,rfl⟩ (.cons ⟨_,F9,B9,sc9,rfl,rfl⟩ (.cons ⟨_,F10,B10,Ql0,rfl,rfl⟩ (.cons ⟨_,F11,B11,QlZ,rfl,rfl⟩ (.cons ⟨_,F12,B12,QlY,rfl,rfl⟩ (.cons ⟨_,F13,B13,QlX,rfl,rfl⟩ (.cons ⟨_,F14,B14,QlW,rfl,rfl⟩ .nil)))))))))))))))
  .nil
  (show(fldN.all fun x=>!(mthN.contains x))=true by decide +kernel) (show fldN.Nodup by decide +kernel) (.cons s2_1 (.cons s2_2 (.cons s2_3 (.cons s2_4 (.cons s2_5 (.cons s2_6 (.cons s2_ve .nil))))))) .nil
  .nil
  (.cons (W.mg_of X G a0) (.cons (W.mg_of X G a1) (.cons (W.mg_of X G a2) (.cons (W.mg_of X G a3) (.cons (W.mg_of X G a4) (.cons (W.mg_of X G a5) (.cons (W.mg_of X G a6) (.cons (W.mg_of X G a7) (.cons (W.mg_of X G a8) (.cons (W.mg_of X G a9) (.cons (W.mg_of X G a10) (.cons (W.mg_of X G a11) (.cons (W.mg_of X G a12) (.cons (W.mg_of X G a13) (.cons (W.mg_of X G a14) (.cons (W.mg_of X G n0) (.cons (W.mg_of X G n1) (.cons (W.mg_of X G n2) (.cons (W.mg_of X G n3) (.cons (W.mg_of X G n4) (.cons (W.mg_of X G n5) (.cons (W.mg_of X G n6) .nil)))))))))))))))))))))) (.cons (W.mg_none_of X G z_len) (.cons (W.mg_none_of X G z_int) (.cons (W.mg_none_of X G z_tuple) (.cons (W.mg_none_of X G z_list) (.cons (W.mg_none_of X G z_bool) (.cons (W.mg_none_of X G z_isinstance) (.cons (W.mg_none_of X G z_range) (.cons (W.mg_none_of X G z_zip) (.cons (W.mg_none_of X G z_sum) (.cons (W.mg_none_of X G z_any) (.cons (W.mg_none_of X G z_ValueError) .nil))))))))))) (.cons ⟨⟨va2,vb2,vc2,hn,htk,vd2,ve2,vf2⟩,.inr ⟨0,"row",rfl,by simp [Qlz,tbX],rfl,QgB l15 e15 ⟨rfl,rfl,rfl,by decide +kernel,rfl,by decide +kernel,by decide +kernel⟩ rfl ⟨wq2,wf2,wk2⟩ ⟨va2,vb2,vc2,hn,htk,vd2,ve2,vf2⟩ wa2 wr2 wc2 (W.mg_of X G n0) ws2 wo2 wx2 wh2 (fun s us X hl=>ar1 (P:=fun us=>BindsTo s _ ⟨us,[]⟩ ((["self","row"]:List Str).zip (us++[.none]))) (fun _=>W.binds_K X rfl dd15 rfl rfl rfl) us hl) (fun _ _ _=>rfl) (by decide +kernel) (fun _ _ _=>rfl) (fun _ _ _=>⟨_,rfl⟩)⟩⟩ .nil) (.cons vh2_2 (.cons vh2_0 .nil))
 have tab:∀(s:List U) (a:Addr),Jo l.prog w (tbX s) (adr a) K:=fun s a k kvs e=>by
  simp [tbX,QlC]at e
 have hX0:∀(base:Heap) (s:List U) (a:Addr),XOk l.prog w K mg base (tbX s) (adr a) 0:=fun base s a=>Ql8 (tp s a) rfl
 have hX:∀(base:Heap) (s:List U) (a:Addr),XOk l.prog w K mg base (tb s) (adr a) (0+2+2*3):=fun base s a=>QlI (T:=tbX s) (T':=tb s) (m:=3) rfl rfl rfl rfl rfl rfl rfl (tp s a) (tab s a) (Qdw s _) (hX0 base s a)
 exact⟨_,fun s v=>.of_eq rfl,fun base _ _=>Qix (tb:=tb) (adr:=adr) (L:=14) (F:=⟨"law","law",QbX,["_law_script"],N14,1,4,true,b14⟩) (fun _=>rfl) (fun _=>rfl) rfl rfl (fun _=>rfl) (fun _=>rfl) (fun s a=>QjD (tp s a)) (fun s a=>tab s a) Qi4 (hX base) F14 comp⟩
theorem walk{l:W.OpenLaw}{q:Program}{loose:List Str}{XP:(Str->Option Value)->Heap->Prop}{YP:World->Heap->Prop}{d:DefRec}{K:Params->W.Frag}(hn:l.most=some 63)(hdf:d.params.defaults=[])
  (hY:∀(w:World) (h:Heap),YP w h->(K w.params).In h)
  (F:∀(w:World) (mg:Str->Option Value) (fa:Addr) (h:Heap),(K w.params).In h->h.Ns mainGlobals mg->mg d.name=some (.ref fa) ->
   ∃ fd : FuncData, (∀ (s : Shared) (u : Value), BindsTo s fd ⟨[u], []⟩ [("_law_script", u)]) /\ ∀ base : Heap, (K w.params).In base -> base.Ns mainGlobals mg -> FnOk l.prog w (K w.params) mg base CX0 (0 + 2 + 2 * 3 + 2 * 6) fa fd ["_law_script"] (Qd0 (K w.params))) :
  W.WalkO q loose XP YP l.row.toRowW d [] (fun f vs=>PySem.call f vs):=
 L2.walk_of (n:=63) (k:=(0+2+2*3+2*6)) (x:="_law_script") (CX:=fun _=>CX0) (sp:=fun w=>Qd0 (K w.params)) hn (by decide) hdf ⟨rfl,by decide,by decide⟩ hY F (fun _ _ a ns hl hO hS=>⟨a,ns,rfl,hS,hO,hl,fun _=>rfl⟩) fun _ _ _ _ _ z=>z
end K06
open PySem PySem.W PyProof.Rows
set_option maxRecDepth 100000 in
set_option maxHeartbeats 0 in
theorem PySem.Challenge.cw_stitchroom_k06_sums_holds : PySem.Challenge.rw_stitchroom_k06_sums.Holds := by
 w_on;refine W.holds_law (by kernel_rfl) fun said=>?_
 refine holds_open (q:=K06.hq) (loose:=K06.hlo) (Xt:=K06.hXt) (XP:=XL K06.hq []) (Yf:=K06.hYf) (Ya:=K06.hYa) (YP:=Hook.says (kHook K06.K K06.KA K06.hKA)) (N:=4172) K06.hleft (Hook.of (kHook K06.K K06.KA K06.hKA)) (Hook.keeps (kHook K06.K K06.KA K06.hKA)) (fun s e=>xl_of s (Bool.and_eq_true_iff.mp e).1) XL.keeps (by rfl) (by rfl) (by rfl) (fun s e=>recFacts_of (Bool.and_eq_true_iff.mp e).2) (by rfl) (by first | assumption | decide +kernel) (by decide +kernel) ⟨rfl,rfl,rfl,rfl,rfl,by decide +kernel⟩ ?hw ?hc
 (case hw=>w_witness2)
 k_fill
 refine K06.walk (l:=PySem.Challenge.rw_stitchroom_k06_sums) rfl rfl (fun w h Y=>W.kIn_of Y) ?F
 case F =>
  intro w mg fa h KX G hmg
  refine' K06.all_mk KX G hmg ?a0 ?l0 ?e0 ?k0 ?a1 ?l1 ?e1 ?k1 ?a2 ?l2 ?e2 ?k2 ?a3 ?l3 ?e3 ?k3 ?a4 ?l4 ?e4 ?k4 ?a5 ?l5 ?e5 ?k5 ?a6 ?l6 ?e6 ?k6 ?a7 ?l7 ?e7 ?k7 ?a8 ?l8 ?e8 ?k8 ?a9 ?l9 ?e9 ?k9 ?a10 ?l10 ?e10 ?k10 ?a11 ?l11 ?e11 ?k11 ?a12 ?l12 ?e12 ?k12 ?a13 ?l13 ?e13 ?k13 ?a14 ?l14 ?e14 ?k14 ?hn ?htk ?n0 ?n1 ?n2 ?n3 ?n4 ?n5 ?n6 ?va2 ?vb2 ?vc2 ?vd2 ?ve2 ?vf2 ?a15 ?l15 ?dd15 ?e15 ?wq2 ?wf2 ?wk2 ?wa2 ?wr2 ?wc2 ?ws2 ?wo2 ?wx2 ?wh2 ?vh2_2 ?vh2_0 ?s2_1 ?s2_2 ?s2_3 ?s2_4 ?s2_5 ?s2_6 ?s2_ve ?z_len ?z_int ?z_tuple ?z_list ?z_bool ?z_isinstance ?z_range ?z_zip ?z_sum ?z_any ?z_ValueError
  case a0 | l0 | e0 | k0 | a1 | l1 | e1 | k1 | a2 | l2 | e2 | k2 | a3 | l3 | e3 | k3 | a4 | l4 | e4 | k4 | a5 | l5 | e5 | k5 | a6 | l6 | e6 | k6 | a7 | l7 | e7 | k7 | a8 | l8 | e8 | k8 | a9 | l9 | e9 | k9 | a10 | l10 | e10 | k10 | a11 | l11 | e11 | k11 | a12 | l12 | e12 | k12 | a13 | l13 | e13 | k13 | a14 | l14 | e14 | k14 | hn | htk | n0 | n1 | n2 | n3 | n4 | n5 | n6=>first | k_is | (delta K06.fI;k_is)
  case va2 | vb2 | vc2 | vd2 | ve2 | vf2=>first | k_is | (delta K06.fI;k_is) | k_exc | kernel_rfl
  case a15 | l15 | dd15 | e15=>first | k_is | (delta K06.fI;k_is)
  case wq2 | wf2 | wk2 | wa2 | wr2 | wc2 | ws2 | wo2 | wx2 | wh2 | vh2_2 | vh2_0=>first | k_is | (delta K06.fI;k_is) | k_exc | kernel_rfl
  case s2_1 | s2_2 | s2_3 | s2_4 | s2_5 | s2_6 | s2_ve=>first | kit_is | (delta K06.kO;kit_is)
  case z_len | z_int | z_tuple | z_list | z_bool | z_isinstance | z_range | z_zip | z_sum | z_any | z_ValueError=>first | k_is | (delta K06.fI;k_is)
