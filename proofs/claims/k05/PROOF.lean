import PyProof.Rows.All
import Wide.All
import OpenK.AllK
import Wide.FinOn
import PyProof.EqAt
import PyProof.EqKinds
import PyProof.TupleCall
import KE.KTryMore
import PyProof.ExcArgsOwn
import PyProof.ExcBaseAll.ValueError
import PyProof.ExcAttrAll.ValueError
import PySem.Challenge.RW_stitchroom_k05_marks_read
set_option Elab.async false
set_option linter.all false
set_option maxRecDepth 100000
set_option maxHeartbeats 4000000
namespace L2
open PySem PySem.Spec PyProof.Rows
noncomputable abbrev Key:=Sum Int Str
noncomputable def Y6:Key->Value->Bool
 | .inl k,v=>Value.isInt k v
 | .inr x,v=>Value.isStrOf x v
noncomputable def Ji(w:World):Key->Int
 | .inl k=>hashInt k
 | .inr x=>hashStr w x
theorem Qx:∀{k:Key} {v:Value},Y6 k v=true->(∃i t,k=Sum.inl i/\v=Value.int i t)\/(∃x t,k=Sum.inr x/\v=Value.str x t)
 | .inl i,v,h=>by
  obtain⟨t,e⟩:=Value.isInt_shape (k:=i) (v:=v) h;exact .inl ⟨i,t,rfl,e⟩
 | .inr x,v,h=>by
  obtain⟨t,e⟩:=Value.isStrOf_shape (x:=x) (v:=v) h;exact .inr ⟨x,t,rfl,e⟩
theorem QY(i:Int)(t:Tok):Y6 (.inl i) (.int i t)=true:=by simp [Y6,Value.isInt]
theorem Qm(x:Str)(t:Tok):Y6 (.inr x) (.str x t)=true:=by simp [Y6,Value.isStrOf]
theorem QiQ(a b:Int):decide ((Sum.inl a:Key)=Sum.inl b)=(a==b):=by
 by_cases e:a=b
 ·subst e;simp
 ·have h:¬(Sum.inl a:Key)=Sum.inl b:=fun q=>e (Sum.inl.inj q);rw [decide_eq_false h];exact(beq_eq_false_iff_ne.mpr e).symm
theorem QiN(a b:Str):decide ((Sum.inr a:Key)=Sum.inr b)=decide (a=b):=by
 by_cases e:a=b
 ·subst e;simp
 ·have h:¬(Sum.inr a:Key)=Sum.inr b:=fun q=>e (Sum.inr.inj q);rw [decide_eq_false h,decide_eq_false e]
theorem QiP(a:Int)(b:Str):decide ((Sum.inl a:Key)=Sum.inr b)=false:=decide_eq_false (fun q=>nomatch q)
theorem QiO(a:Str)(b:Int):decide ((Sum.inr a:Key)=Sum.inl b)=false:=decide_eq_false (fun q=>nomatch q)
noncomputable def Qs(prog:Program)(w:World):PySem.KeyKind prog w Key where
 is:=Y6
 hash:=Ji w
 inj:=fun v a b ha hb=>by
  rcases Qx ha with⟨i,t,rfl,rfl⟩ | ⟨x,t,rfl,rfl⟩
  ·rcases Qx hb with⟨j,u,rfl,e⟩ | ⟨y,u,rfl,e⟩
   ·injection e with e1 _;rw [e1]
   ·exact nomatch e
  ·rcases Qx hb with⟨j,u,rfl,e⟩ | ⟨y,u,rfl,e⟩
   ·exact nomatch e
   ·injection e with e1 _;rw [e1]
 byValue:=fun k v h=>by
  rcases Qx h with⟨i,t,rfl,rfl⟩ | ⟨x,t,rfl,rfl⟩<;>rfl
 pyHash:=fun hv h=>by
  rcases Qx hv with⟨i,t,rfl,rfl⟩ | ⟨x,t,rfl,rfl⟩
  ·exact wpAny_pyHash_int h
  ·exact wpAny_pyHash_str h
 eqBool:=fun hu hv h=>by
  rcases Qx hu with⟨i,t,rfl,rfl⟩ | ⟨x,t,rfl,rfl⟩
  ·rcases Qx hv with⟨j,u,rfl,rfl⟩ | ⟨y,u,rfl,rfl⟩
   ·rw [QiQ]at h;exact wpAny_eqBool_int h
   ·rw [QiP]at h;exact SeqAt.EqAt.int_str i t y u _ _ _ _ h
  ·rcases Qx hv with⟨j,u,rfl,rfl⟩ | ⟨y,u,rfl,rfl⟩
   ·rw [QiO]at h;exact SeqAt.EqAt.str_int x t j u _ _ _ _ h
   ·rw [QiN]at h;exact wpAny_eqBool_str h
 «strs»:=fun k x t v h=>by
  rcases Qx h with⟨i,u,rfl,e⟩ | ⟨y,u,rfl,e⟩
  ·exact nomatch e
  ·injection e with e1 _;subst e1;cases v<;>rfl
theorem Qah(prog:Program)(w:World)(i:Int)(t:Tok):(Qs prog w).is (.inl i) (.int i t)=true:=QY i t
theorem Qag(prog:Program)(w:World)(x:Str)(t:Tok):(Qs prog w).is (.inr x) (.str x t)=true:=Qm x t
end L2
namespace L2
open PySem PySem.Spec PyProof.Rows
inductive V where
 | non | bl (b:Bool) | int (i:Int) | str (x:Str) | byt (b:Array UInt8) | flt (b:UInt64) | ref (a:Addr) | ty (n:String)
 deriving DecidableEq
noncomputable def RelV:V->Value->Prop
 | .non,u=>u=Value.none
 | .bl b,u=>u=Value.bool b
 | .int i,u=>∃t,u=Value.int i t
 | .str x,u=>∃t,u=Value.str x t
 | .byt b,u=>∃t,u=Value.bytes b t
 | .flt b,u=>∃t,u=Value.float b t
 | .ref a,u=>u=Value.ref a
 | .ty n,u=>u=Value.type n
noncomputable abbrev Vals:List V->List Value->Prop:=Paired RelV
theorem Vals.length{xs:List V}{us:List Value}(r:Vals xs us):xs.length=us.length:=Paired.length r
theorem Vals.get:∀{xs:List V} {us:List Value} {i:Nat} {x:V},Vals xs us->xs[i]?=some x->∃u,us[i]?=some u/\RelV x u
 | _,_,_,_,.nil,e=>by simp at e
 | _,_,0,_,.cons r _,e=>by simp at e;subst e;exact⟨_,rfl,r⟩
 | _,_,i+1,x,.cons _ t,e=>by
  obtain⟨u,h1,h2⟩:=Vals.get (i:=i) (x:=x) t (by simpa using e)
  exact⟨u,by simpa using h1,h2⟩
theorem Vals.set{x:V}{u:Value}(r:RelV x u):∀{xs:List V} {us:List Value} (i:Nat),Vals xs us->Vals (xs.set i x) (us.set i u)
 | _,_,_,.nil=>.nil
 | _,_,0,.cons _ t=>.cons r t
 | _,_,i+1,.cons q t=>.cons q (Vals.set r i t)
theorem Vals.append:∀{xs ys:List V} {us ws:List Value},Vals xs us->Vals ys ws->Vals (xs++ys) (us++ws)
 | _,_,_,_,.nil,s=>s
 | _,_,_,_,.cons r t,s=>.cons r (Vals.append t s)
theorem Vals.take:∀{xs:List V} {us:List Value} (n:Nat),Vals xs us->Vals (xs.take n) (us.take n)
 | _,_,0,_=>.nil
 | _,_,_+1,.nil=>.nil
 | _,_,n+1,.cons r t=>.cons r (Vals.take n t)
theorem Vals.drop:∀{xs:List V} {us:List Value} (n:Nat),Vals xs us->Vals (xs.drop n) (us.drop n)
 | _,_,0,r=>r
 | _,_,_+1,.nil=>.nil
 | _,_,n+1,.cons _ t=>Vals.drop n t
noncomputable def RelO:Option V->Option Value->Prop
 | some v,some u=>RelV v u
 | none,none=>True
 | _,_=>False
noncomputable def KV{κ:Type}:List (κ×V)->List (κ×Value)->Prop:=Paired fun(p:κ×V) (q:κ×Value)=>p.1=q.1/\RelV p.2 q.2
noncomputable def kV:Key->V
 | .inl i=>.int i
 | .inr x=>.str x
inductive HO where
 /-- a list -/
 | lst (xs:List V)
 /-- a tuple (never changes) -/
 | tup (xs:List V)
 /-- a dict whose keys are ints and texts;one whose keys are tuples of ints and texts (the empty one is both) -/
 | dK (kvs:List (Key×V)) | dT (kvs:List (List Key×V))
 /-- a set of ints: its members,its size -/
 | set (S:Int->Bool) (n:Nat)
 /-- an instance of the class at C,its dict at dx,its attributes -/
 | ins (C dx:Addr) (fs:List (Str×V))
 /-- the dict of the instance at x -/
 | own (x:Addr)
 /-- the dict of an exception -/
 | xd (fs:List (Str×V))
 /-- a bound method,f of x -/
 | met (f x:Addr)
 /-- a range object lo,lo+1,.. below hi -/
 | rng (lo hi:Int)
 /-- a thing that is known to the object (the script;a dict while a loop walks it): read,never written while it is so -/
 | frz (o:Obj) (u:HO)
 /-- a code object's table -/
 | tbl (ps:Array Value)
 /-- any other thing,by what is true of its one object (a def of one's own: SetO a S n:=HO.ext fun h=>..) -/
 | ext (φ:Heap->Prop)
noncomputable abbrev Hp:=Addr->Option HO
noncomputable def upd(H:Hp)(a:Addr)(o:HO):Hp:=fun b=>if b=a then some o else H b
theorem Qg{H:Hp}{a:Addr}{o:HO}:upd H a o a=some o:=by unfold upd;rw [if_pos rfl]
theorem Qe{H:Hp}{a b:Addr}{o:HO}(h:b≠a):upd H a o b=H b:=by unfold upd;rw [if_neg h]
theorem QfD{H:Hp}{a:Addr}{o u:HO}:upd (upd H a o) a u=upd H a u:=by
 funext b;unfold upd;split<;>rfl
theorem Qko{H:Hp}{a b:Addr}{o u:HO}(h:H a=some o)(h':H b=some u)(d:o≠u):a≠b:=by
 intro e;subst e;rw [h]at h';exact d (Option.some.inj h')
theorem Q8{H:Hp}{a b:Addr}{o:HO}(h:H a=some o)(h':H b=none):a≠b:=by
 intro e;subst e;rw [h]at h';cases h'
section
variable (P:Program)(w:World)
noncomputable def ObjOk(H:Hp)(h:Heap)(a:Addr):HO->Prop
 | .lst xs => xs.length <= sizeLine /\ ∃ (its : List Value) (n : Nat), Vals xs its /\ h.get? a = some { cls := .type "list", data := .seq its.toArray n }
 | .tup xs=>xs.length<=sizeLine/\∃its:List Value,Vals xs its/\IsTup h a its.toArray
 | .dK kvs=>kvs.length<=sizeLine/\(a==sysModules)=false/\∃vs,KV kvs vs/\h.DictOf (Qs P w) a vs
 | .dT kvs=>kvs.length<=sizeLine/\(a==sysModules)=false/\∃xs:List (List Key×Addr×Value),
   Paired (fun(p:List Key×V) (q:List Key×Addr×Value)=>p.1=q.1/\H q.2.1=some (.tup (p.1.map kV))/\RelV p.2 q.2.2) kvs xs /\
   ∃o es ep,h.get? a=some o/\o.ExactDict/\o.data=.dict es ep/\es.toList=xs.map (entryOfKey (tupleKind (Qs P w)))/\(xs.map (·.1)).Nodup
 | .set S n=>h.SetOf (intKind P w) a S n
 | .ins C dx fs=>H dx=some (.own a)/\fs.length<=1000/\dx≠a/\h.get? a=some (PySem.W.instObj C dx) /\
   ∃mA,h.Ns1 dx mA/\(∀f,RelO (fs.lookup f) (mA f))/\PySem.Within mA (fs.map (·.1))
 | .own _=>∃o,h.get? a=some o
 | .xd fs=>∃mA,h.Ns1 a mA/\∀f,RelO (fs.lookup f) (mA f)
 | .rng lo hi=>∃t u v,h.get? a=some { cls:=.type "range",data:=.fields #[.int lo t,.int hi u,.int 1 v] }
 | .frz o u=>h.get? a=some o/\ObjOk H h a u
 | .tbl ps=>h.get? a=some { cls:=.none,data:=.fields ps }
 | .met f x=>h.get? a=some (PySem.W.methodObj (.ref f) (.ref x))
 | .ext φ=>φ h/\(∃o,h.get? a=some o)/\∀h1 h2:Heap,φ h1->(∀o,h1.get? a=some o->h2.get? a=some o)->φ h2
noncomputable def HOk(H:Hp)(h:Heap):Prop:=∀a o,H a=some o->ObjOk P w H h a o
end
section
variable {P:Program}{w:World}{H H':Hp}{h h':Heap}{a:Addr}{o:HO}
theorem ObjOk.lt(x:ObjOk P w H h a o):a<h.objs.size:=by
 cases o with
 | lst xs=>obtain⟨_,_,_,_,e⟩:=x;exact Heap.lt_size e
 | tup xs=>obtain⟨_,_,_,p⟩:=x;exact p.lt
 | dK kvs=>obtain⟨_,_,_,_,o,_,_,e,_⟩:=x;exact Heap.lt_size e
 | dT kvs=>obtain⟨_,_,_,_,o,_,_,e,_⟩:=x;exact Heap.lt_size e
 | set S n=>obtain⟨o,_,_,_,e,_⟩:=x;exact Heap.lt_size e
 | ins C dx fs=>obtain⟨_,_,_,e,_⟩:=x;exact Heap.lt_size e
 | own y=>obtain⟨_,e⟩:=x;exact Heap.lt_size e
 | xd fs=>obtain⟨_,⟨_,_,_,e,_⟩,_⟩:=x;exact Heap.lt_size e
 | rng lo hi=>obtain⟨_,_,_,e⟩:=x;exact Heap.lt_size e
 | frz ob u=>obtain⟨e,_⟩:=x;exact Heap.lt_size e
 | tbl ps=>exact Heap.lt_size (show h.get? a=some _ from x)
 | met f y=>exact Heap.lt_size (show h.get? a=some _ from x)
 | ext φ=>obtain⟨_,⟨_,e⟩,_⟩:=x;exact Heap.lt_size e
theorem Paired.mapP{α β:Type}{F G:α->β->Prop}:∀{l₁:List α} {l₂:List β},Paired F l₁ l₂->(∀a b,F a b->G a b)->Paired G l₁ l₂
 | _,_,.nil,_=>.nil
 | _,_,.cons r t,f=>.cons (f _ _ r) (Paired.mapP t f)
theorem ObjOk.stay(x:ObjOk P w H h a o)(k:∀b u,(b=a\/H b=some (.own a))->h.get? b=some u->h'.get? b=some u)
  (ho:∀b,H b=some (.own a)->H' b=some (.own a)) (ht:∀b xs,H b=some (.tup xs)->H' b=some (.tup xs)):ObjOk P w H' h' a o:=by
 induction o with
 | lst xs=>obtain⟨z,its,n,r,e⟩:=x;exact⟨z,its,n,r,k _ _ (.inl rfl) e⟩
 | tup xs=>obtain⟨z,its,r,ob,e,c⟩:=x;exact⟨z,its,r,ob,k _ _ (.inl rfl) e,c⟩
 | dK kvs=>obtain⟨z,y,vs,r,ob,es,ep,e,c⟩:=x;exact⟨z,y,vs,r,ob,es,ep,k _ _ (.inl rfl) e,c⟩
 | dT kvs =>
  obtain⟨z,y,xs,r,ob,es,ep,e,c⟩:=x;exact⟨z,y,xs,Paired.mapP r fun p q z=>⟨z.1,ht _ _ z.2.1,z.2.2⟩,ob,es,ep,k _ _ (.inl rfl) e,c⟩
 | set S n=>obtain⟨ob,es,ep,t,e,c⟩:=x;exact⟨ob,es,ep,t,k _ _ (.inl rfl) e,c⟩
 | ins C dx fs =>
  obtain⟨d,z,ne,e,mA,⟨od,es,ep,e2,c⟩,r⟩:=x;exact⟨ho _ d,z,ne,k _ _ (.inl rfl) e,mA,⟨od,es,ep,k _ _ (.inr d) e2,c⟩,r⟩
 | own y=>obtain⟨ob,e⟩:=x;exact⟨ob,k _ _ (.inl rfl) e⟩
 | xd fs=>obtain⟨mA,⟨od,es,ep,e,c⟩,r⟩:=x;exact⟨mA,⟨od,es,ep,k _ _ (.inl rfl) e,c⟩,r⟩
 | rng lo hi=>obtain⟨t,u,v,e⟩:=x;exact⟨t,u,v,k _ _ (.inl rfl) e⟩
 | frz ob u ih=>obtain⟨e,q⟩:=x;exact⟨k _ _ (.inl rfl) e,ih q⟩
 | tbl ps =>
  have e:h.get? a=some { cls:=.none,data:=.fields ps }:=x;show h'.get? a=some { cls:=.none,data:=.fields ps };exact k a _ (.inl rfl) e
 | met f y =>
  have e:h.get? a=some (PySem.W.methodObj (.ref f) (.ref y)):=x;show h'.get? a=some (PySem.W.methodObj (.ref f) (.ref y));exact k a _ (.inl rfl) e
 | ext φ=>obtain⟨p,⟨o,e⟩,st⟩:=x;exact⟨st _ _ p fun o q=>k _ _ (.inl rfl) q,⟨o,k _ _ (.inl rfl) e⟩,st⟩
theorem HOk.lt(x:HOk P w H h)(e:H a=some o):a<h.objs.size:=(x a o e).lt
theorem HOk.fresh(x:HOk P w H h)(e:h.objs.size<=a):H a=none:=by
 cases q:H a with
 | none=>rfl
 | some u=>exact absurd (Nat.lt_of_lt_of_le (x.lt q) e) (Nat.lt_irrefl _)
theorem HOk.kept(x:HOk P w H h)(k:∀b u,h.get? b=some u->h'.get? b=some u):HOk P w H h':=fun a o e =>
 (x a o e).stay (fun b u _ q=>k b u q) (fun _ q=>q) fun _ _ q=>q
theorem HOk.laid(x:HOk P w H h)(k:∀b u,h.get? b=some u->h'.get? b=some u)(hp:h.objs.size<=a)(new:ObjOk P w (upd H a o) h' a o):HOk P w (upd H a o) h':=fun b u e=>by
 have hn:=x.fresh hp;by_cases hb:b=a
 ·subst hb;rw [Qg]at e;cases e;exact new
 ·rw [Qe hb]at e
  exact(x b u e).stay (fun c v _ q=>k c v q) (fun c q=>by rw [Qe (Q8 q hn)];exact q) fun c xs q=>by rw [Qe (Q8 q hn)];exact q
end
noncomputable def Rd(H:Hp)(a:Addr)(u:HO):Prop:=H a=some u\/∃o,H a=some (.frz o u)
theorem Rd.ok{P:Program}{w:World}{H:Hp}{h:Heap}{a:Addr}{u:HO}(r:Rd H a u)(x:HOk P w H h):ObjOk P w H h a u:=by
 rcases r with r | ⟨o,r⟩
 ·exact x a u r
 ·obtain⟨_,q⟩:=x a _ r;exact q
noncomputable def Mut:Option HO->Prop
 | some (.lst _)=>True
 | some (.dK _)=>True
 | some (.dT _)=>True
 | some (.set _ _)=>True
 | some (.ins _ _ _)=>True
 | some (.ext _)=>True
 | _=>False
section
variable {P:Program}{w:World}{H:Hp}{h h':Heap}{x e:Addr}{o':HO}
theorem HOk.write(ok:HOk P w H h)(mu:Mut (H x))(he:e=x\/H e=some (.own x))(k:∀b u,b≠e->h.get? b=some u->h'.get? b=some u)(heo:∃u,h'.get? e=some u)
  (new:ObjOk P w (upd H x o') h' x o'):HOk P w (upd H x o') h':=fun b u q=>by
 have nown:∀c y,H c=some (.own y)->c≠x:=fun c y r z=>by subst z;rw [r]at mu;exact mu
 have ntup:∀c xs,H c=some (.tup xs)->c≠x:=fun c xs r z=>by subst z;rw [r]at mu;exact mu
 by_cases hb:b=x
 ·subst hb;rw [Qg]at q;cases q;exact new
 ·rw [Qe hb]at q;by_cases hbe:b=e
  ·have q':H b=some (.own x):=by
    rcases he with z | z
    ·exact absurd (hbe.trans z) hb
    ·rw [hbe];exact z
   rw [q]at q';cases q';obtain⟨v,hv⟩:=heo
   exact⟨v,by rw [hbe];exact hv⟩
  ·refine(ok b u q).stay (fun c v hc r=>k c v ?_ r) (fun c r=>by rw [Qe (nown c b r)];exact r) fun c xs r=>by rw [Qe (ntup c xs r)];exact r
   rcases hc with rfl | hc
   ·exact hbe
   ·rintro rfl
    rcases he with z | z
    ·exact nown c b hc z
    ·rw [hc]at z;cases z;exact hb rfl
end
structure Un(fs ex:List Addr)(H H':Hp)(h h':Heap):Prop where
 keep:∀b o,h.get? b=some o->H b=none->b∉fs->b∉ex->h'.get? b=some o
 slot:∀b o,h.get? b=some o->H b=none->b∈fs->b∉ex->∃sl,h'.get? b=some { o with slots:=sl }
 free:∀b o,h.get? b=some o->H b=none->b∉ex->H' b=none
 there:∀b o,h.get? b=some o->b∉ex->∃o',h'.get? b=some o'
 tups:∀b xs,H b=some (.tup xs)->H' b=some (.tup xs)
 frzs:∀b o u,H b=some (.frz o u)->H' b=some (.frz o u)
 tbls:∀b ps,H b=some (.tbl ps)->∃more,H' b=some (.tbl (ps++more))
section
variable {fs fs' ex ex':List Addr}{H H1 H2:Hp}{h h1 h2 h':Heap}{a x e:Addr}{o:HO}
theorem Un.any(u:Un fs ex H H1 h h1){b:Addr}{ob:Obj}(q:h.get? b=some ob)(n:H b=none)(hx:b∉ex):∃sl,h1.get? b=some { ob with slots:=sl }:=by
 by_cases hb:b∈fs
 ·exact u.slot b ob q n hb hx
 ·exact⟨ob.slots,u.keep b ob q n hb hx⟩
theorem Un.kept(k:∀b u,h.get? b=some u->h'.get? b=some u):Un fs ex H H h h' :=
 ⟨fun b ob q _ _ _=>k b ob q,fun b ob q _ _ _=>⟨ob.slots,k b ob q⟩,fun _ _ _ n _=>n,fun b ob q _=>⟨ob,k b ob q⟩,fun _ _ q=>q,fun _ _ _ q=>q,fun _ ps q=>⟨#[],by rw [q];simp⟩⟩
theorem Un.refl:Un fs ex H H h h:=Un.kept fun _ _ q=>q
theorem Un.laid(k:∀b u,h.get? b=some u->h'.get? b=some u)(hp:h.objs.size<=a)(hn:H a=none):Un fs ex H (upd H a o) h h' where
 keep:=fun b u q _ _ _=>k b u q
 slot:=fun b u q _ _ _=>⟨u.slots,k b u q⟩
 free:=fun b u q n _=>by rw [Qe (Nat.ne_of_lt (Nat.lt_of_lt_of_le (Heap.lt_size q) hp))];exact n
 there:=fun b u q _=>⟨u,k b u q⟩
 tups:=fun b xs q=>by rw [Qe (Q8 q hn)];exact q
 frzs:=fun b u xs q=>by rw [Qe (Q8 q hn)];exact q
 tbls:=fun b ps q=>⟨#[],by rw [Qe (Q8 q hn),q];simp⟩
theorem Un.write(mu:Mut (H x))(he:e=x\/H e=some (.own x))(k:∀b u,b≠e->h.get? b=some u->h'.get? b=some u)(heo:∃u,h'.get? e=some u):Un fs ex H (upd H x o) h h':=by
 have hx:∀b,H b=none->b≠x:=fun b n z=>by subst z;rw [n]at mu;exact mu
 have hb:∀b,H b=none->b≠e:=fun b n z=>by
  subst z
  rcases he with r | r
  ·exact hx b n r
  ·rw [n]at r;cases r
 have hm:∀b u,H b=some u->¬Mut (some u)->b≠x:=fun b u q nm z=>by subst z;rw [q]at mu;exact nm mu
 refine⟨fun b u q n _ _=>k b u (hb b n) q,fun b u q n _ _=>⟨u.slots,k b u (hb b n) q⟩,fun b u q n _=>by rw [Qe (hx b n)];exact n,fun b u q _=>?_,
  fun b xs q=>by rw [Qe (hm b _ q fun z=>z)];exact q,fun b u xs q=>by rw [Qe (hm b _ q fun z=>z)];exact q,fun b ps q=>⟨#[],by rw [Qe (hm b _ q fun z=>z),q];simp⟩⟩
 by_cases hbe:b=e
 ·subst hbe;exact heo
 ·exact⟨u,k b u hbe q⟩
end
noncomputable def trk(h:Heap)(H:Hp):List Addr:=(List.range h.objs.size).filter fun a=>(H a).isSome
noncomputable def QeE(h:Heap)(H:Hp):Heap:=PySem.W.hideAll h (trk h H)
theorem Qcp(h:Heap)(H:Hp):(QeE h H).objs.size=h.objs.size:=PySem.W.hideAll_size _ _
theorem QeD{h:Heap}{H:Hp}{b:Addr}{o:Obj}(e:h.get? b=some o)(n:H b=none):(QeE h H).get? b=some o :=
 PySem.W.hideAll_get _ e fun hm=>by
  have q:(H b).isSome=true:=(List.mem_filter.mp hm).2;rw [n]at q;simp at q
theorem Qgr{h:Heap}{H:Hp}{b:Addr}{o:Obj}(e:(QeE h H).get? b=some o):h.get? b=some o/\H b=none:=by
 have e':h.get? b=some o:=PySem.W.of_hideAll (trk h H) e;refine⟨e',?_⟩
 cases q:H b with
 | none=>rfl
 | some x =>
  have hm:b∈trk h H:=List.mem_filter.mpr ⟨List.mem_range.mpr (Heap.lt_size e'),by simp [q]⟩
  have z:(QeE h H).get? b=none:=PySem.W.hideAll_none (trk h H) hm;rw [z]at e;cases e
end L2
namespace L2
open PySem PySem.Spec PyProof.Rows
structure Mod(K:PySem.W.Frag)(mg:Str->Option Value)(base:Heap):Prop where
 kin:K.In base
 glob:base.Ns mainGlobals mg
 blt : ∃ mb, base.Ns builtinsNs mb /\ ∀ x : Str, x ≠ "__name__" -> mb x = bootBuiltins x
 nolimit:base.NoLimit
structure Cx where
 prog:Program
 w:World
 K:PySem.W.Frag
 mg:Str->Option Value
 base:Heap
 A:Around
 N:List Str
 s₀:Shared
 H₀:Hp
 env:Env
 outer:List Env
 stack:List Env
 ex:List Addr
 fn:Str->Bool
 calm:Bool
 pn:List (Addr×Obj)
 xe:Value->Shared->Prop
noncomputable def frs(l:List Env):List Addr:=l.filterMap (·.frame)
noncomputable abbrev Cx.fs(X:Cx):List Addr:=frs X.outer
noncomputable def Vis(sc:Scope)(x:Str):Prop:=sc.names.lookup x=some .local\/sc.names.lookup x=some .cell\/sc.names.lookup x=some .free
noncomputable def Loc(sc:Scope)(x:Str):Prop:=sc.names.lookup x=some .local\/sc.names.lookup x=some .cell
noncomputable def Qou(env:Env)(h:Heap)(m:Str->Option Value)(x:Str)(u:Value):Prop :=
 (env.kindOf x=some .local/\m x=some u)\/((env.kindOf x=some .cell\/env.kindOf x=some .free)/\∃c,env.cells.lookup x=some c/\h.IsCell c (some u))
structure Cx.Ok(X:Cx):Prop where
 mod:Mod X.K X.mg X.base
 kind:X.env.scope.kind=.function
 glob:X.env.globals=mainGlobals
 blt:X.env.builtins=builtinsNs
 above:X.s₀.heap.objs.size<=X.env.locals
 inj:∀x y c,X.env.cells.lookup x=some c->X.env.cells.lookup y=some c->x=y
 has:∀x,(X.env.kindOf x=some .cell\/X.env.kindOf x=some .free)->∃c,X.env.cells.lookup x=some c
 cab:∀x c,X.fn x=true->X.env.cells.lookup x=some c->X.s₀.heap.objs.size<=c
 hd:X.calm=true->X.A.handled=none
 frames:X.A.frames=some X.stack
 stk:X.stack=X.outer\/(X.stack=X.env::X.outer/\X.env.frame=some X.env.locals)
 exf:∀b∈X.ex,b≠X.env.locals/\∀x c,X.env.cells.lookup x=some c->c≠b
 bs:∀b o,X.base.get? b=some o->X.s₀.heap.get? b=some o/\X.H₀ b=none
 bsz:X.base.objs.size<=X.s₀.heap.objs.size
 noex:∀b o,X.base.get? b=some o->b∉X.ex
 exfs:∀b∈X.ex,b∉X.fs
 funs:X.s₀.heap.FunFrames X.base X.outer
 frf:∀b∈X.fs,X.H₀ b=none
structure Inv(X:Cx)(pins:List (Addr×Obj))(σ:List (Option V))(H:Hp)(s:Shared):Prop where
 ok:X.Ok
 os:s.os=X.s₀.os
 bare:AllBare s.gens
 base:Un X.fs X.ex X.H₀ H X.s₀.heap s.heap
 loc:∃m,s.heap.Ns X.env.locals m/\∀(i:Nat) (x:Str) (v:V),X.N[i]?=some x->σ[i]?=some (some v)->Vis X.env.scope x->∃u,RelV v u/\Qou X.env s.heap m x u
 cell:∀x c,X.env.cells.lookup x=some c->∃v,s.heap.IsCell c v
 free:H X.env.locals=none
 freeC:∀x c,X.env.cells.lookup x=some c->H c=none
 pin:∀p∈X.pn++pins,s.heap.get? p.1=some p.2/\H p.1=none/\p.1≠X.env.locals/\p.1∉X.fs/\∀v,p.2.data≠.cell v
 hok:HOk X.prog X.w H s.heap
 len:σ.length=X.N.length
section
variable {X:Cx}{pins:List (Addr×Obj)}{σ:List (Option V)}{H H':Hp}{s:Shared}{h':Heap}
theorem Cx.Ok.nofr(ok:X.Ok){b:Addr}{o:Obj}(e:X.base.get? b=some o):b∉X.fs:=fun hb=>by
 have:=(ok.funs.mem hb).1;rw [e]at this;cases this
theorem Inv.bs(I:Inv X pins σ H s):∀b o,X.base.get? b=some o->s.heap.get? b=some o/\H b=none:=fun b o e =>
 ⟨I.base.keep b o (I.ok.bs b o e).1 (I.ok.bs b o e).2 (I.ok.nofr e) (I.ok.noex b o e),I.base.free b o (I.ok.bs b o e).1 (I.ok.bs b o e).2 (I.ok.noex b o e)⟩
theorem Inv.bk(I:Inv X pins σ H s):∀b o,X.base.get? b=some o->s.heap.get? b=some o:=fun b o e=>(I.bs b o e).1
theorem Inv.mod(I:Inv X pins σ H s):Mod X.K X.mg X.base:=I.ok.mod
theorem Inv.kIn(I:Inv X pins σ H s):X.K.In s.heap:=I.ok.mod.kin.keeps I.bk
theorem Inv.lt(I:Inv X pins σ H s):X.env.locals<s.heap.objs.size:=let ⟨_,hn,_⟩:=I.loc;hn.lt
theorem Inv.sz(I:Inv X pins σ H s):X.s₀.heap.objs.size<=s.heap.objs.size:=Nat.le_trans I.ok.above (Nat.le_of_lt I.lt)
theorem Inv.nofs(I:Inv X pins σ H s){a:Addr}(h:s.heap.objs.size<=a):a∉X.fs:=fun hb=>by
 obtain⟨_,o,ho,_⟩:=I.ok.funs.mem hb;exact absurd (Nat.lt_of_lt_of_le (Heap.lt_size ho) (Nat.le_trans I.sz h)) (Nat.lt_irrefl _)
theorem Inv.cne(I:Inv X pins σ H s):∀x c,X.env.cells.lookup x=some c->c≠X.env.locals:=fun x c e z=>by
 obtain⟨v,o,ho,hd⟩:=I.cell x c e;obtain⟨m,⟨o',es,ep,ho',hd',_⟩,_⟩:=I.loc;rw [z,ho']at ho;cases ho;rw [hd']at hd;cases hd
theorem Inv.funs(I:Inv X pins σ H s):s.heap.FunFrames X.base X.outer:=by
 have all:∀(l:List Env),(∀b∈frs l,b∈X.fs)->X.s₀.heap.FunFrames X.base l->s.heap.FunFrames X.base l:=by
  intro l
  induction l with
  | nil=>intro _ _;trivial
  | cons env r ih =>
   intro hs hl;obtain⟨hk,⟨L,o,hf,hn,ho,hd⟩,hr⟩:=hl
   have hL:L∈X.fs:=hs L (by unfold frs;rw [List.filterMap_cons,hf];exact List.mem_cons_self)
   obtain⟨sl,e⟩:=I.base.slot L o ho (I.ok.frf L hL) hL fun z=>I.ok.exfs L z hL
   exact⟨hk,⟨L,_,hf,hn,e,hd⟩,ih (fun b hb=>hs b (by unfold frs;rw [List.filterMap_cons,hf];exact List.mem_cons_of_mem _ hb)) hr⟩
 exact all X.outer (fun _ hb=>hb) I.ok.funs
theorem Inv.stack(I:Inv X pins σ H s):s.heap.FunFrames X.base X.stack:=by
 rcases I.ok.stk with e | ⟨e,hf⟩
 ·rw [e];exact I.funs
 ·rw [e];obtain⟨m,hn,_⟩:=I.loc
  refine .cons (by rw [I.ok.kind];decide) hf hn ?_ I.funs
  exact Heap.get?_none_of_le (Nat.le_trans I.ok.bsz I.ok.above)
theorem Inv.stkSub(I:Inv X pins σ H s):∀b∈frs X.stack,b∈X.env.locals::X.fs:=fun b hb=>by
 rcases I.ok.stk with e | ⟨e,hf⟩
 ·rw [e]at hb;exact List.mem_cons_of_mem _ hb
 ·rw [e]at hb;unfold frs at hb;rw [List.filterMap_cons,hf]at hb;exact hb
theorem Inv.stkFree(I:Inv X pins σ H s):∀b∈frs X.stack,H b=none:=fun b hb=>by
 rcases List.mem_cons.mp (I.stkSub b hb)with e | hb
 ·rw [e];exact I.free
 ·obtain⟨_,o,ho,_⟩:=I.ok.funs.mem hb;exact I.base.free b o ho (I.ok.frf b hb) fun z=>I.ok.exfs b z hb
theorem Inv.step{g':Array GenState}{t':Nat}{d':Drawn}{ch:List Addr}(I:Inv X pins σ H s)
  (hch:∀b∈ch,(b∈X.ex\/X.s₀.heap.objs.size<=b)/\b≠X.env.locals/\(∀x c,X.env.cells.lookup x=some c->c≠b)/\∀p∈X.pn++pins,p.1≠b)
  (keep:∀b o,b≠X.env.locals->b∉X.fs->b∉ch->s.heap.get? b=some o->H b=none->h'.get? b=some o)
  (slot:∀b o,b≠X.env.locals->b∈X.fs->b∉ch->s.heap.get? b=some o->H b=none->∃sl,h'.get? b=some { o with slots:=sl }) (free:∀b o,b∉ch->s.heap.get? b=some o->H b=none->H' b=none)
  (there:∀b o,b∉ch->s.heap.get? b=some o->∃o',h'.get? b=some o')
  (tups:∀b xs,H b=some (.tup xs)->H' b=some (.tup xs)) (frzs:∀b o u,H b=some (.frz o u)->H' b=some (.frz o u)) (tbls:∀b ps,H b=some (.tbl ps)->∃more,H' b=some (.tbl (ps++more)))
  (ns:∀m,s.heap.Ns X.env.locals m->h'.Ns X.env.locals m) (hok:HOk X.prog X.w H' h') (hg:AllBare g'):
  Inv X pins σ H' { s with heap:=h',gens:=g',drawn:=d',toks:=t' }:=by
 have neL:∀b o,X.s₀.heap.get? b=some o->b≠X.env.locals:=fun b o e=>Nat.ne_of_lt (Nat.lt_of_lt_of_le (Heap.lt_size e) I.ok.above)
 have neC:∀b o,X.s₀.heap.get? b=some o->b∉X.ex->b∉ch:=fun b o e hx hb=>by
  rcases (hch b hb).1 with z | z
  ·exact hx z
  ·exact absurd (Nat.lt_of_lt_of_le (Heap.lt_size e) z) (Nat.lt_irrefl _)
 have cellK:∀x c,X.env.cells.lookup x=some c->∀v,s.heap.IsCell c v->h'.IsCell c v:=fun x c e v ⟨o,ho,hd⟩=>by
  have nch:c∉ch:=fun z=>(hch c z).2.2.1 x c e rfl;by_cases hc:c∈X.fs
  ·obtain⟨sl,q⟩:=slot c o (I.cne x c e) hc nch ho (I.freeC x c e);exact⟨_,q,hd⟩
  ·exact⟨o,keep c o (I.cne x c e) hc nch ho (I.freeC x c e),hd⟩
 refine⟨I.ok,I.os,hg,⟨fun b o e n hb hx=>?_,fun b o e n hb hx=>?_,fun b o e n hx=>?_,fun b o e hx=>?_,fun b xs e=>tups b xs (I.base.tups b xs e),fun b o xs e=>frzs b o xs (I.base.frzs b o xs e),fun b ps e=>?_⟩,?_,fun x c e=>?_,?_,fun x c e=>?_,fun p hp=>?_,hok,I.len⟩
 ·exact keep b o (neL b o e) hb (neC b o e hx) (I.base.keep b o e n hb hx) (I.base.free b o e n hx)
 ·obtain⟨sl,e1⟩:=I.base.slot b o e n hb hx;obtain⟨sl',e2⟩:=slot b _ (neL b o e) hb (neC b o e hx) e1 (I.base.free b o e n hx);exact⟨sl',e2⟩
 ·obtain⟨o',e1⟩:=I.base.there b o e hx;exact free b o' (neC b o e hx) e1 (I.base.free b o e n hx)
 ·obtain⟨o',e1⟩:=I.base.there b o e hx;exact there b o' (neC b o e hx) e1
 ·obtain⟨m1,e1⟩:=I.base.tbls b ps e;obtain⟨m2,e2⟩:=tbls b _ e1
  exact⟨m1++m2,by rw [e2,Array.append_assoc]⟩
 ·obtain⟨m,hn,hl⟩:=I.loc;refine⟨m,ns m hn,fun i x v e1 e2 e3=>?_⟩;obtain⟨u,r,l⟩:=hl i x v e1 e2 e3;refine⟨u,r,?_⟩
  rcases l with l | ⟨k,c,e,z⟩
  ·exact .inl l
  ·exact .inr ⟨k,c,e,cellK x c e _ z⟩
 ·obtain⟨v,z⟩:=I.cell x c e;exact⟨v,cellK x c e v z⟩
 ·obtain⟨m,⟨o,_,_,ho,_⟩,_⟩:=I.loc;exact free _ o (fun z=>(hch _ z).2.1 rfl) ho I.free
 ·obtain⟨v,o,ho,hd⟩:=I.cell x c e;exact free c o (fun z=>(hch c z).2.2.1 x c e rfl) ho (I.freeC x c e)
 ·obtain⟨e,n,ne,nf,d⟩:=I.pin p hp;have nch:p.1∉ch:=fun z=>(hch p.1 z).2.2.2 p hp rfl;exact⟨keep p.1 p.2 ne nf nch e n,free p.1 p.2 nch e n,ne,nf,d⟩
theorem Inv.un{t':Nat}(I:Inv X pins σ H s)(u:Un X.fs [] H H' s.heap h')(hok:HOk X.prog X.w H' h'):Inv X pins σ H' { s with heap:=h',toks:=t' }:=by
 obtain⟨m,⟨o,es,ep,ho,r⟩,_⟩:=id I.loc
 obtain⟨sl,hL⟩:=u.any ho I.free (by simp)
 exact I.step (g':=s.gens) (d':=s.drawn) (ch:=[]) (fun _ z=>nomatch z) (fun b o _ hb _ e n=>u.keep b o e n hb (by simp)) (fun b o _ hb _ e n=>u.slot b o e n hb (by simp)) (fun b o _ e n=>u.free b o e n (by simp)) (fun b o _ e=>u.there b o e (by simp)) u.tups u.frzs u.tbls (fun m' hm=>by
  obtain⟨o',es',ep',ho',r'⟩:=hm;rw [ho]at ho';cases ho'
  exact⟨_,es',ep',hL,r'⟩) hok I.bare
theorem Inv.call{g':Array GenState}{t':Nat}{d':Drawn}{ch:List Addr}(I:Inv X pins σ H s)(u:Un (frs X.stack) ch H H' s.heap h')(hok:HOk X.prog X.w H' h')(hg:AllBare g')
  (hch:∀b∈ch,(b∈X.ex\/X.s₀.heap.objs.size<=b)/\b≠X.env.locals/\(∀x c,X.env.cells.lookup x=some c->c≠b)/\∀p∈X.pn++pins,p.1≠b):
  Inv X pins σ H' { s with heap:=h',gens:=g',drawn:=d',toks:=t' }:=by
 obtain⟨m,⟨o,es,ep,ho,r⟩,_⟩:=id I.loc;obtain⟨sl,hL⟩:=u.any ho I.free fun z=>(hch _ z).2.1 rfl
 exact I.step (ch:=ch) hch (fun b o hL hb hc e n=>u.keep b o e n (fun z=>(List.mem_cons.mp (I.stkSub b z)).elim hL hb) hc) (fun b o _ _ hc e n=>u.any e n hc) (fun b o hc e n=>u.free b o e n hc) (fun b o hc e=>u.there b o e hc) u.tups u.frzs u.tbls (fun m' hm=>by
  obtain⟨o',es',ep',ho',r'⟩:=hm;rw [ho]at ho';cases ho'
  exact⟨_,es',ep',hL,r'⟩) hok hg
theorem Inv.turned{t':Nat}{it:Addr}(I:Inv X pins σ H s)(k:∀b o,b≠it->s.heap.get? b=some o->h'.get? b=some o)(hn:H it=none)(hL:it≠X.env.locals)
  (h1:it∈X.ex\/X.s₀.heap.objs.size<=it) (h2:∀x c,X.env.cells.lookup x=some c->c≠it) (h3:∀p∈X.pn++pins,p.1≠it):Inv X pins σ H { s with heap:=h',toks:=t' }:=by
 have nit:∀b u,H b=some u->b≠it:=fun b u e z=>by rw [z,hn]at e;cases e
 refine I.step (g':=s.gens) (d':=s.drawn) (ch:=[it]) (fun b hb=>?_) (fun b o _ _ hc e _=>k b o (fun z=>hc (by simp [z])) e) (fun b o _ _ hc e _=>⟨o.slots,k b o (fun z=>hc (by simp [z])) e⟩) (fun _ _ _ _ n=>n)
  (fun b o hc e=>⟨o,k b o (fun z=>hc (by simp [z])) e⟩) (fun _ _ e=>e) (fun _ _ _ e=>e) (fun b ps e=>⟨#[],by rw [e];simp⟩) (fun m hm=>?_) (fun b u e=>?_) I.bare
 ·have e:b=it:=by simpa using hb
  subst e;exact⟨h1,hL,h2,h3⟩
 ·obtain⟨o,es,ep,ho,r⟩:=hm;exact⟨o,es,ep,k _ o (Ne.symm hL) ho,r⟩
 ·refine(I.hok b u e).stay (fun c v hc q=>k c v ?_ q) (fun _ q=>q) fun _ _ q=>q
  rcases hc with z | z
  ·rw [z];exact nit b u e
  ·exact nit c _ z
theorem Inv.tok(I:Inv X pins σ H s)(t:Nat):Inv X pins σ H { s with toks:=t }:=I.un (h':=s.heap) (t':=t) Un.refl I.hok
theorem Inv.kept{t':Nat}(I:Inv X pins σ H s)(k:∀b u,s.heap.get? b=some u->h'.get? b=some u):Inv X pins σ H { s with heap:=h',toks:=t' }:=I.un (Un.kept k) (I.hok.kept k)
theorem Inv.laid{a:Addr}{o:HO}{t':Nat}(I:Inv X pins σ H s)(k:∀b u,s.heap.get? b=some u->h'.get? b=some u)(hp:s.heap.objs.size<=a)(new:ObjOk X.prog X.w (upd H a o) h' a o):
  Inv X pins σ (upd H a o) { s with heap:=h',toks:=t' }:=I.un (Un.laid k hp (I.hok.fresh hp)) (I.hok.laid k hp new)
theorem Inv.write{x e:Addr}{o:HO}{t':Nat}(I:Inv X pins σ H s)(mu:Mut (H x))(he:e=x\/H e=some (.own x))(k:∀b u,b≠e->s.heap.get? b=some u->h'.get? b=some u)(heo:∃u,h'.get? e=some u)
  (new:ObjOk X.prog X.w (upd H x o) h' x o):Inv X pins σ (upd H x o) { s with heap:=h',toks:=t' }:=I.un (Un.write mu he k heo) (I.hok.write mu he k heo new)
theorem Inv.pins_of{pins':List (Addr×Obj)}(I:Inv X pins σ H s)(h:∀p∈pins',s.heap.get? p.1=some p.2/\H p.1=none/\p.1≠X.env.locals/\p.1∉X.fs/\∀v,p.2.data≠.cell v):Inv X pins' σ H s :=
 ⟨I.ok,I.os,I.bare,I.base,I.loc,I.cell,I.free,I.freeC,fun p hp=>(List.mem_append.mp hp).elim (fun z=>I.pin p (List.mem_append_left _ z)) (h p),I.hok,I.len⟩
theorem Y3{N:List Str}(hN:N.Nodup){i j:Nat}{x:Str}(a:N[i]?=some x)(b:N[j]?=some x):i=j:=by
 obtain⟨h1,e1⟩:=List.getElem?_eq_some_iff.mp a;obtain⟨h2,e2⟩:=List.getElem?_eq_some_iff.mp b;exact(List.getElem_inj hN).mp (e1.trans e2.symm)
theorem QbD{M:Model}{A:Around}{E:Value->Shared->Prop}{i:Nat}{x:Str}{v:V}{u:Value}{Q:Unit->Shared->Prop}(I:Inv X pins σ H s)(hN:X.N.Nodup)(hi:X.N[i]?=some x)(hx:Loc X.env.scope x)(r:RelV v u)
  (h:∀s',Inv X pins (σ.set i (some v)) H s'->(∃a,Heap.SameBut a s.heap s'.heap/\(a=X.env.locals\/X.env.cells.lookup x=some a))->Q () s') (hf:X.fn x=true\/X.env.scope.names.lookup x=some .local:=by first | exact .inl rfl | exact .inr rfl | assumption):wpAny M A (storeName X.env x u) Q E s:=by
 obtain⟨m,hn,hl⟩:=id I.loc
 have hcls:(X.env.scope.kind==.class||(X.env.scope.kind==.module&&X.env.locals != X.env.globals))=false:=by rw [I.ok.kind];rfl
 have hiσ:i < σ.length:=by rw [I.len];exact(List.getElem?_eq_some_iff.mp hi).1
 have cne:=I.cne
 have tracked:∀{a:Addr} {h':Heap},(∃o,s.heap.get? a=some o/\H a=none)->Heap.SameBut a s.heap h'->HOk X.prog X.w H h':=fun {a h'} ha hs b ob e=>by
  obtain⟨_,_,hfree⟩:=ha;refine(I.hok b ob e).stay (fun c w' hc q=>(hs.2 c ?_).trans q) (fun _ q=>q) fun _ _ q=>q;rintro rfl
  rcases hc with rfl | hc
  ·rw [hfree]at e;cases e
  ·rw [hfree]at hc;cases hc
 rcases hx with hk | hk
 ·refine wpAny_storeName_local hk hn (fun h' hn' hs=>?_) hcls;obtain⟨oL,_,_,hoL,_⟩:=id hn
  refine h _ ⟨I.ok,I.os,I.bare,⟨fun b o e n hb hx=>?_,fun b o e n hb hx=>?_,I.base.free,fun b o e hx=>?_,I.base.tups,I.base.frzs,I.base.tbls⟩,⟨_,hn',fun j y v' e1 e2 e3=>?_⟩,fun y c e=>?_,I.free,I.freeC,fun p hp=>?_,tracked ⟨oL,hoL,I.free⟩ hs,by simpa using I.len⟩ ⟨_,hs,.inl rfl⟩
  ·exact(hs.2 b (Nat.ne_of_lt (Nat.lt_of_lt_of_le (Heap.lt_size e) I.ok.above))).trans (I.base.keep b o e n hb hx)
  ·obtain⟨sl,e1⟩:=I.base.slot b o e n hb hx;exact⟨sl,(hs.2 b (Nat.ne_of_lt (Nat.lt_of_lt_of_le (Heap.lt_size e) I.ok.above))).trans e1⟩
  ·obtain⟨o',e1⟩:=I.base.there b o e hx;exact⟨o',(hs.2 b (Nat.ne_of_lt (Nat.lt_of_lt_of_le (Heap.lt_size e) I.ok.above))).trans e1⟩
  ·by_cases hj:j=i
   ·subst hj;rw [hi]at e1;cases e1;rw [List.getElem?_set_self hiσ]at e2;cases e2
    exact⟨u,r,.inl ⟨hk,by simp⟩⟩
   ·rw [List.getElem?_set_ne (Ne.symm hj)]at e2;obtain⟨u',r',q⟩:=hl j y v' e1 e2 e3;refine⟨u',r',?_⟩
    rcases q with⟨k,e⟩ | ⟨k,c,e,z⟩
    ·refine .inl ⟨k,?_⟩;have:y≠x:=fun e=>hj (Y3 hN e1 (e▸hi));simp [this,e]
    ·exact .inr ⟨k,c,e,z.sameBut hs (cne y c e)⟩
  ·obtain⟨w',z⟩:=I.cell y c e;exact⟨w',z.sameBut hs (cne y c e)⟩
  ·obtain⟨e,n,ne,nf,d⟩:=I.pin p hp;exact⟨(hs.2 p.1 ne).trans e,n,ne,nf,d⟩
 ·have hfn:X.fn x=true:=by
   rcases hf with z | z
   ·exact z
   ·rw [z]at hk;cases hk
  obtain⟨c,hc⟩:=I.ok.has x (.inl hk);obtain⟨w',z⟩:=I.cell x c hc;refine wpAny_storeName_cell I.ok.kind hk hc z (fun h' hc' hs=>?_);obtain⟨oc,hoc,hocd⟩:=id z
  refine h { s with heap:=h' } ⟨I.ok,I.os,I.bare,⟨fun b o e n hb hx=>?_,fun b o e n hb hx=>?_,I.base.free,fun b o e hx=>?_,I.base.tups,I.base.frzs,I.base.tbls⟩,⟨m,hn.sameBut hs (Ne.symm (cne x c hc)),fun j y v' e1 e2 e3=>?_⟩,fun y c' e=>?_,I.free,I.freeC,fun p hp=>?_,tracked ⟨oc,hoc,I.freeC x c hc⟩ hs,by simpa using I.len⟩ ⟨c,hs,.inr hc⟩
  ·exact(hs.2 b (Nat.ne_of_lt (Nat.lt_of_lt_of_le (Heap.lt_size e) (I.ok.cab x c hfn hc)))).trans (I.base.keep b o e n hb hx)
  ·obtain⟨sl,e1⟩:=I.base.slot b o e n hb hx;exact⟨sl,(hs.2 b (Nat.ne_of_lt (Nat.lt_of_lt_of_le (Heap.lt_size e) (I.ok.cab x c hfn hc)))).trans e1⟩
  ·obtain⟨o',e1⟩:=I.base.there b o e hx;exact⟨o',(hs.2 b (Nat.ne_of_lt (Nat.lt_of_lt_of_le (Heap.lt_size e) (I.ok.cab x c hfn hc)))).trans e1⟩
  ·by_cases hj:j=i
   ·subst hj;rw [hi]at e1;cases e1;rw [List.getElem?_set_self hiσ]at e2;cases e2;exact⟨u,r,.inr ⟨.inl hk,c,hc,hc'⟩⟩
   ·rw [List.getElem?_set_ne (Ne.symm hj)]at e2;obtain⟨u',r',q⟩:=hl j y v' e1 e2 e3;refine⟨u',r',?_⟩
    rcases q with q | ⟨k,c',e,z'⟩
    ·exact .inl q
    ·refine .inr ⟨k,c',e,z'.sameBut hs ?_⟩;rintro rfl;exact hj (Y3 hN e1 (I.ok.inj _ _ _ e hc▸hi))
  ·by_cases hcc:c'=c
   ·subst hcc;exact⟨_,hc'⟩
   ·obtain⟨w2,z2⟩:=I.cell y c' e;exact⟨w2,z2.sameBut hs hcc⟩
  ·obtain⟨e,n,ne,nf,d⟩:=I.pin p hp;refine⟨(hs.2 p.1 ?_).trans e,n,ne,nf,d⟩;intro q;rw [q,hoc]at e;have q':oc=p.2:=Option.some.inj e
   exact d w' (by rw [<-q'];exact hocd)
theorem Z5{M:Model}{A:Around}{E:Value->Shared->Prop}{i:Nat}{x:Str}{v:V}{u:Value}{Q:Unit->Shared->Prop}(I:Inv X pins σ H s)(hN:X.N.Nodup)(hi:X.N[i]?=some x)(hx:Loc X.env.scope x)(r:RelV v u)
  (h:∀s',Inv X pins (σ.set i (some v)) H s'->Q () s') (hf:X.fn x=true\/X.env.scope.names.lookup x=some .local:=by first | exact .inl rfl | exact .inr rfl | assumption):wpAny M A (storeName X.env x u) Q E s :=
 QbD I hN hi hx r (fun s' I' _=>h s' I') hf
theorem Inv.call'{s':Shared}{ch:List Addr}(I:Inv X pins σ H s)(ho:s'.os=s.os)(u:Un (frs X.stack) ch H H' s.heap s'.heap)(hok:HOk X.prog X.w H' s'.heap)(hg:AllBare s'.gens)
  (hch:∀b∈ch,(b∈X.ex\/X.s₀.heap.objs.size<=b)/\b≠X.env.locals/\(∀x c,X.env.cells.lookup x=some c->c≠b)/\∀p∈X.pn++pins,p.1≠b):Inv X pins σ H' s':=by
 obtain⟨h',g',d',t',o'⟩:=s';have e:o'=s.os:=ho;subst e;exact I.call (g':=g') (t':=t') (d':=d') u hok hg hch
end
noncomputable abbrev XK:=Value->Option Addr->Hp->Prop
noncomputable abbrev St:=List (Option V)
noncomputable abbrev VK:=V->Hp->Prop
noncomputable abbrev TE:=St->Hp->VK->Prop
noncomputable abbrev TT:=St->Hp->(Bool->Hp->Prop)->Prop
noncomputable abbrev TA:=St->Hp->(List V->Hp->Prop)->Prop
structure Ends where
 nx:St->Hp->Prop
 rt:VK
 bk:St->Hp->Prop:=fun _ _=>False
 ct:St->Hp->Prop:=fun _ _=>False
noncomputable abbrev TS:=Ends->St->Hp->Prop
noncomputable def EP(X:Cx)(pins:List (Addr×Obj))(σ:St)(Q:VK)(u:Value)(s':Shared):Prop:=∃v H',Inv X pins σ H' s'/\RelV v u/\Q v H'
noncomputable def TP(X:Cx)(pins:List (Addr×Obj))(σ:St)(Q:Bool->Hp->Prop)(b:Bool)(s':Shared):Prop:=∃H',Inv X pins σ H' s'/\Q b H'
noncomputable def AP(X:Cx)(pins:List (Addr×Obj))(σ:St)(Q:List V->Hp->Prop)(us:List Value)(s':Shared):Prop:=∃vs H',Inv X pins σ H' s'/\Vals vs us/\Q vs H'
noncomputable def SP(X:Cx)(pins:List (Addr×Obj))(D:Ends)(f:Flow)(s':Shared):Prop :=
 match f with
 | .next=>∃σ' H',Inv X pins σ' H' s'/\D.nx σ' H'
 | .brk=>∃σ' H',Inv X pins σ' H' s'/\D.bk σ' H'
 | .cont=>∃σ' H',Inv X pins σ' H' s'/\D.ct σ' H'
 | .ret u=>∃v σ' H',Inv X pins σ' H' s'/\RelV v u/\D.rt v H'
noncomputable def PE(X:Cx)(e:Expr)(t:TE):Prop :=
 ∀(pins:List (Addr×Obj)) (s:Shared) (σ:St) (H:Hp) (Q:VK),Inv X pins σ H s->t σ H Q->wpAny (model X.prog X.w) X.A (eval e X.env) (EP X pins σ Q) X.xe s
noncomputable def PT(X:Cx)(e:Expr)(t:TT):Prop :=
 ∀(pins:List (Addr×Obj)) (s:Shared) (σ:St) (H:Hp) (Q:Bool->Hp->Prop),Inv X pins σ H s->t σ H Q->wpAny (model X.prog X.w) X.A (isTrue e X.env (eval e X.env)) (TP X pins σ Q) X.xe s
noncomputable def PW(X:Cx)(e:Expr)(t:TT):Prop :=
 ∀(whole:Sem Value) (pins:List (Addr×Obj)) (s:Shared) (σ:St) (H:Hp) (Q:Bool->Hp->Prop),Inv X pins σ H s->t σ H Q->wpAny (model X.prog X.w) X.A (isTrue e X.env whole) (TP X pins σ Q) X.xe s
theorem PW.pt{X:Cx}{e:Expr}{t:TT}(h:PW X e t):PT X e t:=h _
noncomputable def PA(X:Cx)(es:List Expr)(t:TA):Prop :=
 ∀(pos:Pos) (pins:List (Addr×Obj)) (s:Shared) (σ:St) (H:Hp) (Q:List V->Hp->Prop),Inv X pins σ H s->t σ H Q->wpAny (model X.prog X.w) X.A (spliced (backTo pos (starEach es X.env))) (AP X pins σ Q) X.xe s
noncomputable def PS(X:Cx)(st:Stmt)(t:TS):Prop :=
 ∀(pins:List (Addr×Obj)) (s:Shared) (σ:St) (H:Hp) (D:Ends),Inv X pins σ H s->t D σ H->wpAny (model X.prog X.w) X.A (exec st X.env) (SP X pins D) X.xe s
noncomputable def PSs(X:Cx)(st:List Stmt)(t:TS):Prop :=
 ∀(pins:List (Addr×Obj)) (s:Shared) (σ:St) (H:Hp) (D:Ends),Inv X pins σ H s->t D σ H->wpAny (model X.prog X.w) X.A (execs st X.env) (SP X pins D) X.xe s
theorem thn{α:Type}{t:Sem α}{Q Q':α->Shared->Prop}{M:Model}{A:Around}{E:Value->Shared->Prop}{s:Shared}(h:wpAny M A t Q E s)(hQ:∀a s,Q a s->Q' a s):wpAny M A t Q' E s:=wpAny_mono h hQ fun _ _ x=>x
end L2
namespace L2
open PySem PySem.Spec PyProof.Rows
section
variable {X:Cx}
noncomputable def Qmb(i:Nat):TE:=fun σ H Q=>∃v,σ[i]?=some (some v)/\Q v H
noncomputable def tC(v:V):TE:=fun _ H Q=>Q v H
theorem Qii{i:Nat}{x:Str}{pos:Pos}(hN:X.N[i]?=some x)(hv:Vis X.env.scope x)(hd:(x==("__debug__":Str))=false:=by decide) (hcd:(x==("__classdict__":Str))=false:=by decide):PE X (.Name x pos) (Qmb i):=by
 intro pins s σ H Q I h;obtain⟨v,e,h⟩:=h;obtain⟨m,hn,hl⟩:=I.loc;obtain⟨u,r,l⟩:=hl i x v hN e hv;have fin:EP X pins σ Q u s:=⟨v,H,I,r,h⟩
 rcases l with⟨hk,hm⟩ | ⟨hk,c,hc,hcell⟩
 ·exact wpAny_Name (wpAny_loadName_local I.ok.kind hk hn hm fin) hd
 ·rcases hk with hk | hk
  ·exact wpAny_Name (wpAny_loadName_cell I.ok.kind hk hc hcell fin) hd
  ·exact wpAny_Name (wpAny_loadName_free I.ok.kind hk hc hcell fin hcd) hd
theorem QaN{i j pos}:PE X (.Constant (.int i) j pos) (tC (.int i)):=fun _ _ _ H _ I h=>wpAny_Constant_int ⟨.int i,H,I.tok _,⟨_,rfl⟩,h⟩
theorem Qkf{b j pos}:PE X (.Constant (.bool b) j pos) (tC (.bl b)):=fun _ _ _ H _ I h=>Constant_bool ⟨.bl b,H,I,rfl,h⟩
theorem Qim{j pos}:PE X (.Constant .none j pos) (tC .non):=fun _ _ _ H _ I h=>Constant_none ⟨.non,H,I,rfl,h⟩
theorem QbW{x j pos}:PE X (.Constant (.str x) j pos) (tC (.str x)):=fun _ _ _ H _ I h=>Calls.Constant_str ⟨.str x,H,I.tok _,⟨_,rfl⟩,h⟩
noncomputable def Gl(X:Cx)(x:Str):Prop:=X.env.kindOf x=some .globalImplicit
theorem Zj{E:Value->Shared->Prop}{pins:List (Addr×Obj)}{s:Shared}{σ:St}{H:Hp}{x:Str}{u:Value}{pos:Pos}{Q:Value->Shared->Prop}(I:Inv X pins σ H s)(hg:Gl X x)(hm:X.mg x=some u)(h:Q u s)
  (hd:(x==("__debug__":Str))=false:=by decide):wpAny (model X.prog X.w) X.A (eval (.Name x pos) X.env) Q E s :=
 Calls.Name_function_global I.ok.kind hg (Calls.loadGlobal_global (by rw [I.ok.glob];exact I.mod.glob.keeps I.bk) hm h) hd
theorem Zz{E:Value->Shared->Prop}{pins:List (Addr×Obj)}{s:Shared}{σ:St}{H:Hp}{x:Str}{u:Value}{pos:Pos}{Q:Value->Shared->Prop}(I:Inv X pins σ H s)(hg:Gl X x)(hm:X.mg x=none)(hv:bootBuiltins x=some u)(h:Q u s)
  (hn:x≠"__name__":=by decide) (hd:(x==("__debug__":Str))=false:=by decide):wpAny (model X.prog X.w) X.A (eval (.Name x pos) X.env) Q E s:=by
 obtain⟨mb,h1,h2⟩:=I.mod.blt
 exact Calls.Name_function_global I.ok.kind hg (Calls.loadGlobal_builtin (by rw [I.ok.glob];exact I.mod.glob.keeps I.bk) hm (by rw [I.ok.blt];exact h1.keeps I.bk) ((h2 x hn).trans hv) h) hd
theorem Qac{x:Str}{v:V}{u:Value}{pos:Pos}(hg:Gl X x)(hm:X.mg x=some u)(r:RelV v u)(hd:(x==("__debug__":Str))=false:=by decide):PE X (.Name x pos) (tC v):=
 fun _ _ _ H _ I h=>Zj I hg hm ⟨v,H,I,r,h⟩ hd
theorem Qgh{x:Str}{v:V}{u:Value}{pos:Pos}(hg:Gl X x)(hm:X.mg x=none)(hv:bootBuiltins x=some u)(r:RelV v u)(hn:x≠"__name__":=by decide) (hd:(x==("__debug__":Str))=false:=by decide):PE X (.Name x pos) (tC v):=
 fun _ _ _ H _ I h=>Zz I hg hm hv ⟨v,H,I,r,h⟩ hn hd
variable {a b:Expr}{ta tb:TE}{pos:Pos}
variable {tA tB':TT}{rest:List Expr}
noncomputable def Qmm(t u:TT):TT:=fun σ H Q=>t σ H fun c H1=>if c=true then u σ H1 Q else Q false H1
noncomputable def tOr(t u:TT):TT:=fun σ H Q=>t σ H fun c H1=>if c=true then Q true H1 else u σ H1 Q
noncomputable def Qmg(t:TT):TT:=fun σ H Q=>t σ H fun c H1=>Q (!c) H1
theorem QfZ(ha:PT X a tA):PW X (.BoolOp .And [a] pos) tA:=by
 intro wh pins s σ H Q I h;refine isTrue_and (thn (ha pins s σ H Q I h) fun c s1 e=>?_)
 cases c with
 | true=>exact isTrue_and_nil e
 | false=>exact e
theorem Qh4(ha:PT X a tA):PW X (.BoolOp .Or [a] pos) tA:=by
 intro wh pins s σ H Q I h;refine isTrue_or (thn (ha pins s σ H Q I h) fun c s1 e=>?_)
 cases c with
 | false=>exact isTrue_or_nil e
 | true=>exact e
theorem Qh5(ha:PT X a tA)(hb:PW X (.BoolOp .And (b::rest) pos) tB'):PW X (.BoolOp .And (a::b::rest) pos) (Qmm tA tB'):=by
 intro wh pins s σ H Q I h;refine isTrue_and (thn (ha pins s σ H _ I h) fun c s1 ⟨H1,I1,q1⟩=>?_)
 cases c with
 | true=>exact hb wh pins s1 σ H1 Q I1 q1
 | false=>exact⟨H1,I1,q1⟩
theorem Qka(ha:PT X a tA)(hb:PW X (.BoolOp .Or (b::rest) pos) tB'):PW X (.BoolOp .Or (a::b::rest) pos) (tOr tA tB'):=by
 intro wh pins s σ H Q I h;refine isTrue_or (thn (ha pins s σ H _ I h) fun c s1 ⟨H1,I1,q1⟩=>?_)
 cases c with
 | true=>exact⟨H1,I1,q1⟩
 | false=>exact hb wh pins s1 σ H1 Q I1 q1
theorem Qh8(ha:PT X a tA):PT X (.UnaryOp .Not a pos) (Qmg tA):=by
 intro pins s σ H Q I h;exact isTrue_not (ha pins s σ H (fun c H1=>Q (!c) H1) I h)
noncomputable def QjO(ta tb:TE):TE:=fun σ H Q=>ta σ H fun x H1=>∃c,x=.bl c/\if c=true then tb σ H1 Q else Q (.bl false) H1
noncomputable def Qmf(ta tb:TE):TE:=fun σ H Q=>ta σ H fun x H1=>∃c,x=.bl c/\if c=true then Q (.bl true) H1 else tb σ H1 Q
theorem Qfg{op}{t:TE}(h:PE X a t):PE X (.BoolOp op [a] pos) t:=fun pins s σ H Q I hw=>BoolOp_one (h pins s σ H Q I hw)
theorem Qiq(ha:PE X a ta)(hb:PE X (.BoolOp .And (b::rest) pos) tb):PE X (.BoolOp .And (a::b::rest) pos) (QjO ta tb):=by
 intro pins s σ H Q I h;refine BoolOp_and (thn (ha pins s σ H _ I h) fun v s1 ⟨x,H1,I1,r1,q1⟩=>?_);obtain⟨c,rfl,q1⟩:=q1;cases r1;refine wpAny_truthy_bool ?_
 cases c with
 | true=>exact hb pins s1 σ H1 Q I1 q1
 | false=>exact⟨.bl false,H1,I1,rfl,q1⟩
theorem Qkb(ha:PE X a ta)(hb:PE X (.BoolOp .Or (b::rest) pos) tb):PE X (.BoolOp .Or (a::b::rest) pos) (Qmf ta tb):=by
 intro pins s σ H Q I h;refine BoolOp_or (thn (ha pins s σ H _ I h) fun v s1 ⟨x,H1,I1,r1,q1⟩=>?_);obtain⟨c,rfl,q1⟩:=q1;cases r1;refine wpAny_truthy_bool ?_
 cases c with
 | false=>exact hb pins s1 σ H1 Q I1 q1
 | true=>exact⟨.bl true,H1,I1,rfl,q1⟩
noncomputable def tIf(t:TT)(ta tb:TE):TE:=fun σ H Q=>t σ H fun c H1=>if c=true then ta σ H1 Q else tb σ H1 Q
theorem Qeg{c:Expr}(hc:PT X c tA)(ha:PE X a ta)(hb:PE X b tb):PE X (.IfExp c a b pos) (tIf tA ta tb):=by
 intro pins s σ H Q I h;refine wpAny_IfExp (thn (hc pins s σ H _ I h) fun d s1 ⟨H1,I1,q1⟩=>?_)
 cases d with
 | true=>exact ha pins s1 σ H1 Q I1 q1
 | false=>exact hb pins s1 σ H1 Q I1 q1
end
end L2
namespace L2
open PySem PySem.Spec PyProof.Rows
noncomputable def SqL(K:PySem.W.Frag)(H:Hp)(a:Addr)(xs:List V):Prop :=
 Rd H a (.lst xs) \/
  ∃ (o : Obj) (its : Array Value) (n : Nat), K.lookup a = some o /\ o.cls = .type "list" /\ o.dict = none /\ o.data = .seq its n /\ its.size <= sizeLine /\ Vals xs its.toList
noncomputable def SqT(K:PySem.W.Frag)(H:Hp)(a:Addr)(xs:List V):Prop :=
 Rd H a (.tup xs) \/
  ∃ (o : Obj) (its : Array Value) (n : Nat), K.lookup a = some o /\ o.cls = .type "tuple" /\ o.data = .seq its n /\ its.size <= sizeLine /\ Vals xs its.toList
noncomputable def Qos:Value->Option V
 | .none=>some .non
 | .bool b=>some (.bl b)
 | .int i _=>some (.int i)
 | .str x _=>some (.str x)
 | .bytes b _=>some (.byt b)
 | .float b _=>some (.flt b)
 | .ref a=>some (.ref a)
 | .type n=>some (.ty n)
 | _=>none
theorem RelV.abs{x:V}{u:Value}(r:RelV x u):Qos u=some x:=by
 cases x with
 | non=>cases r;rfl
 | bl _=>cases r;rfl
 | int _=>obtain⟨t,rfl⟩:=r;rfl
 | str _=>obtain⟨t,rfl⟩:=r;rfl
 | byt _=>obtain⟨t,rfl⟩:=r;rfl
 | flt _=>obtain⟨t,rfl⟩:=r;rfl
 | ref _=>cases r;rfl
 | ty _=>cases r;rfl
theorem RelV.inj{x y:V}{u:Value}(r:RelV x u)(q:RelV y u):x=y:=Option.some.inj (r.abs.symm.trans q.abs)
theorem Vals.inj:∀{xs ys:List V} {us:List Value},Vals xs us->Vals ys us->xs=ys
 | _,_,_,.nil,.nil=>rfl
 | _,_,_,.cons r t,.cons r' t'=>by rw [r.inj r',Vals.inj t t']
section
variable {X:Cx}{pins:List (Addr×Obj)}{σ:St}{H:Hp}{s:Shared}{a:Addr}{xs ys:List V}
theorem SqL.of{K:PySem.W.Frag}(h:H a=some (.lst xs)):SqL K H a xs:=.inl (.inl h)
theorem SqT.of{K:PySem.W.Frag}(h:H a=some (.tup xs)):SqT K H a xs:=.inl (.inl h)
theorem Inv.list(I:Inv X pins σ H s)(h:SqL X.K H a xs):∃its:List Value,Vals xs its/\PlainL s.heap a its.toArray/\xs.length<=sizeLine:=by
 rcases h with h | ⟨o,its,n,hk,hc,hd,hs,hz,r⟩
 ·obtain⟨z,its,n,r,e⟩:=h.ok I.hok;exact⟨its,r,⟨_,n,e,rfl,rfl,rfl⟩,z⟩
 ·refine⟨its.toList,r,⟨o,n,I.kIn a o hk,hc,hd,by simpa using hs⟩,?_⟩
  have e:=r.length;simp only [Array.length_toList]at e;omega
theorem Inv.tuple(I:Inv X pins σ H s)(h:SqT X.K H a xs):∃its:List Value,Vals xs its/\IsTup s.heap a its.toArray/\xs.length<=sizeLine:=by
 rcases h with h | ⟨o,its,n,hk,hc,hs,hz,r⟩
 ·obtain⟨z,its,r,p⟩:=h.ok I.hok;exact⟨its,r,p,z⟩
 ·refine⟨its.toList,r,⟨o,I.kIn a o hk,hc,n,by simpa using hs⟩,?_⟩
  have e:=r.length;simp only [Array.length_toList]at e;omega
theorem Inv.list_inj(I:Inv X pins σ H s)(h:SqL X.K H a xs)(h':SqL X.K H a ys):xs=ys:=by
 obtain⟨its,r,⟨o,n,e,_,_,d⟩,_⟩:=I.list h;obtain⟨its',r',⟨o',n',e',_,_,d'⟩,_⟩:=I.list h';rw [e]at e';cases e';rw [d]at d';injection d' with d1 _
 have:its=its':=by simpa using congrArg Array.toList d1
 subst this;exact r.inj r'
theorem Inv.tuple_inj(I:Inv X pins σ H s)(h:SqT X.K H a xs)(h':SqT X.K H a ys):xs=ys:=by
 obtain⟨its,r,⟨o,e,_,n,d⟩,_⟩:=I.tuple h;obtain⟨its',r',⟨o',e',_,n',d'⟩,_⟩:=I.tuple h';rw [e]at e';cases e';rw [d]at d';injection d' with d1 _
 have:its=its':=by simpa using congrArg Array.toList d1
 subst this;exact r.inj r'
end
noncomputable abbrev Cx.wish(X:Cx)(E:Value->Shared->Prop):Cx:={ X with xe:=E }
noncomputable abbrev Cx.nox(X:Cx):Cx:=X.wish fun _ _=>False
theorem Cx.Ok.wish{X:Cx}(ok:X.Ok)(E:Value->Shared->Prop):(X.wish E).Ok :=
 ⟨ok.mod,ok.kind,ok.glob,ok.blt,ok.above,ok.inj,ok.has,ok.cab,ok.hd,ok.frames,ok.stk,ok.exf,ok.bs,ok.bsz,ok.noex,ok.exfs,ok.funs,ok.frf⟩
theorem Cx.Ok.unwish{X:Cx}{E:Value->Shared->Prop}(ok:(X.wish E).Ok):X.Ok :=
 ⟨ok.mod,ok.kind,ok.glob,ok.blt,ok.above,ok.inj,ok.has,ok.cab,ok.hd,ok.frames,ok.stk,ok.exf,ok.bs,ok.bsz,ok.noex,ok.exfs,ok.funs,ok.frf⟩
section
variable {X:Cx}{pins:List (Addr×Obj)}{σ:St}{H:Hp}{s:Shared}{E:Value->Shared->Prop}
theorem Inv.wish(I:Inv X pins σ H s)(E:Value->Shared->Prop):Inv (X.wish E) pins σ H s:=⟨I.ok.wish E,I.os,I.bare,I.base,I.loc,I.cell,I.free,I.freeC,I.pin,I.hok,I.len⟩
theorem Inv.unwish(I:Inv (X.wish E) pins σ H s):Inv X pins σ H s:=⟨I.ok.unwish,I.os,I.bare,I.base,I.loc,I.cell,I.free,I.freeC,I.pin,I.hok,I.len⟩
theorem SP.unwish{D:Ends}{f:Flow}{s':Shared}(h:SP (X.wish E) pins D f s'):SP X pins D f s':=by
 cases f with
 | next=>obtain⟨σ',H',I,q⟩:=h;exact⟨σ',H',I.unwish,q⟩
 | brk=>obtain⟨σ',H',I,q⟩:=h;exact⟨σ',H',I.unwish,q⟩
 | cont=>obtain⟨σ',H',I,q⟩:=h;exact⟨σ',H',I.unwish,q⟩
 | ret u=>obtain⟨v,σ',H',I,r,q⟩:=h;exact⟨v,σ',H',I.unwish,r,q⟩
theorem PT.nox{e:Expr}{t:TT}(h:PT X.nox e t):PT X e t:=fun pins s σ H Q I hw =>
 wpAny_mono (h pins s σ H Q (I.wish _) hw) (fun _ _ ⟨H',I',q⟩=>⟨H',I'.unwish,q⟩) fun _ _ z=>False.elim z
theorem PSs.nox{st:List Stmt}{t:TS}(h:PSs X.nox st t):PSs X st t:=fun pins s σ H D I hw =>
 wpAny_mono (h pins s σ H D (I.wish _) hw) (fun _ _ q=>q.unwish) fun _ _ z=>False.elim z
end
section
variable {X:Cx}{st:Stmt}{rest:List Stmt}{t u:TS}{e:Expr}{te:TE}{pos:Pos}
noncomputable def QfH:TS:=fun D σ H=>D.nx σ H
noncomputable def Qmd(t u:TS):TS:=fun D σ H=>t { D with nx:=u D } σ H
theorem Qf2:PSs X [] QfH:=fun _ _ σ H _ I h=>wpAny_execs_nil ⟨σ,H,I,h⟩
theorem Y2(h1:PS X st t)(h2:PSs X rest u):PSs X (st::rest) (Qmd t u):=by
 intro pins s σ H D I h;refine wpAny_execs_cons (thn (h1 pins s σ H { D with nx:=u D } I h) fun f s1 q=>?_)
 cases f with
 | next =>
  obtain⟨σ',H',I',q⟩:=q;exact h2 pins s1 σ' H' D I' q
 | ret v=>exact q
 | brk=>exact q
 | cont=>exact q
theorem Qf1(h1:PS X st t):PSs X [st] t:=by
 intro pins s σ H D I h;refine wpAny_execs_cons (thn (h1 pins s σ H D I h) fun f s1 q=>?_)
 cases f with
 | next=>exact wpAny_execs_nil q
 | ret v=>exact q
 | brk=>exact q
 | cont=>exact q
noncomputable def QhB:TS:=fun D σ H=>D.bk σ H
noncomputable def QjN:TS:=fun D σ H=>D.ct σ H
theorem Qf5:PS X (.Pass pos) QfH:=fun _ _ σ H _ I h=>wpAny_Pass ⟨σ,H,I,h⟩
theorem Qec:PS X (.Break pos) QhB:=fun _ _ σ H _ I h=>wpAny_Break ⟨σ,H,I,h⟩
theorem Qaa:PS X (.Continue pos) QjN:=fun _ _ σ H _ I h=>wpAny_Continue ⟨σ,H,I,h⟩
theorem Inv.quiet{pins:List (Addr×Obj)}{σ:St}{H:Hp}{s:Shared}(I:Inv X pins σ H s):interactive X.env=false:=by simp [interactive,I.ok.kind]
theorem Qic{x j pos pos'}:PS X (.Expr (.Constant (.str x) j pos) pos') QfH:=fun _ s σ H _ I h=>wpAny_Expr (Calls.Constant_str (show SP X _ _ .next { s with toks:=s.toks+1 }from⟨σ,H,I.tok _,h⟩)) I.quiet
noncomputable def QjK(te:TE):TS:=fun D σ H=>te σ H fun _ H1=>D.nx σ H1
theorem QbP(he:PE X e te)(hs:swapsWith e none pos.line X.env=pure false:=by rfl):PS X (.Expr e pos) (QjK te):=by
 intro pins s σ H D I h;exact wpAny_Expr_any (thn (he pins s σ H _ I h) fun v s1 ⟨x,H1,I1,r1,q1⟩=>⟨σ,H1,I1,q1⟩) I.quiet hs
noncomputable def Qme(te:TE):TS:=fun D σ H=>te σ H D.rt
theorem Qh9(he:PE X e te):PS X (.Return (some e) pos) (Qme te):=by
 intro pins s σ H D I h;exact wpAny_Return_some (thn (he pins s σ H _ I h) fun v s1 ⟨x,H1,I1,r1,q1⟩=>⟨x,σ,H1,I1,r1,q1⟩)
noncomputable def QjJ:TS:=fun D _ H=>D.rt .non H
theorem Qf4:PS X (.Return none pos) QjJ:=fun _ _ σ H _ I h=>wpAny_Return_none ⟨.non,σ,H,I,rfl,h⟩
noncomputable def Qmi(c:TT)(t u:TS):TS:=fun D σ H=>c σ H fun b H1=>if b=true then t D σ H1 else u D σ H1
theorem Qia{c:Expr}{a b:List Stmt}{tc:TT}(hc:PT X c tc)(ha:PSs X a t)(hb:PSs X b u):PS X (.If c a b pos) (Qmi tc t u):=by
 intro pins s σ H D I h;refine wpAny_If (thn (hc pins s σ H _ I h) fun d s1 ⟨H1,I1,q1⟩=>?_)
 cases d with
 | true=>exact ha pins s1 σ H1 D I1 q1
 | false=>exact hb pins s1 σ H1 D I1 q1
end
noncomputable abbrev TG:=V->St->Hp->(St->Hp->Prop)->Prop
noncomputable abbrev TGs:=List V->St->Hp->(St->Hp->Prop)->Prop
noncomputable def PG(X:Cx)(target:Expr)(t:TG):Prop :=
 ∀(pins:List (Addr×Obj)) (s:Shared) (σ:St) (H:Hp) (v:V) (u:Value) (Q:St->Hp->Prop),Inv X pins σ H s->RelV v u->t v σ H Q ->
  wpAny (model X.prog X.w) X.A (assign target X.env u) (fun _ s'=>∃σ' H',Inv X pins σ' H' s'/\Q σ' H') X.xe s
noncomputable def PGs(X:Cx)(ts:List Expr)(t:TGs):Prop :=
 ∀(pins:List (Addr×Obj)) (s:Shared) (σ:St) (H:Hp) (vs:List V) (us:List Value) (Q:St->Hp->Prop),Inv X pins σ H s->Vals vs us->t vs σ H Q ->
  wpAny (model X.prog X.w) X.A (assignInOrder ((assignEach ts X.env).map (·.2)) us) (fun _ s'=>∃σ' H',Inv X pins σ' H' s'/\Q σ' H') X.xe s
noncomputable abbrev Qjx:=V->V->V->Hp->(Hp->Prop)->Prop
noncomputable def Qhl(X:Cx)(t:Qjx):Prop :=
 ∀(pins:List (Addr×Obj)) (s:Shared) (σ:St) (H:Hp) (o i v:V) (ov iv u:Value) (Q:Hp->Prop),Inv X pins σ H s->RelV o ov->RelV i iv->RelV v u->t o i v H Q ->
  wpAny (model X.prog X.w) X.A (setItem ov iv u) (fun _ s'=>∃H',Inv X pins σ H' s'/\Q H') X.xe s
noncomputable abbrev TIp:=V->V->Hp->VK->Prop
section
variable {X:Cx}{pos:Pos}
noncomputable def Y9(i:Nat):TG:=fun v σ H Q=>Q (σ.set i (some v)) H
theorem Yj{i:Nat}{x:Str}(hN:X.N.Nodup)(hi:X.N[i]?=some x)(hx:Loc X.env.scope x)(hf:X.fn x=true\/X.env.scope.names.lookup x=some .local:=by first | exact .inl rfl | exact .inr rfl | assumption):PG X (.Name x pos) (Y9 i):=by
 intro pins s σ H v u Q I r h;exact wpAny_assign_Name (Z5 I hN hi hx r (fun s' I'=>⟨_,H,I',h⟩) hf)
noncomputable def Ql2:TGs:=fun vs σ H Q=>vs=[]/\Q σ H
noncomputable def QgW(t:TG)(u:TGs):TGs:=fun vs σ H Q=>∃v r,vs=v::r/\t v σ H fun σ' H'=>u r σ' H' Q
theorem Qab:PGs X [] Ql2:=by
 intro pins s σ H vs us Q I r h;obtain⟨e,h⟩:=h;subst e;cases r;exact assignInOrder_nil ⟨σ,H,I,h⟩
theorem Zx{e:Expr}{es:List Expr}{t:TG}{u:TGs}(h1:PG X e t)(h2:PGs X es u)
  (hs:(assignEach (e::es) X.env).map (·.2)=assign e X.env::(assignEach es X.env).map (·.2):=by rfl):PGs X (e::es) (QgW t u):=by
 intro pins s σ H vs us Q I r h;obtain⟨v,vr,e1,h⟩:=h;subst e1
 cases r with
 | cons r rr =>
  rw [hs];refine assignInOrder_cons (thn (h1 pins s σ H _ _ _ I r h) fun _ s1 ⟨σ1,H1,I1,q1⟩=>?_);exact h2 pins s1 σ1 H1 _ _ Q I1 rr q1
noncomputable def Ql1(K:PySem.W.Frag)(n:Nat)(t:TGs):TG:=fun v σ H Q=>∃a xs,v=.ref a/\SqT K H a xs/\xs.length=n/\t xs σ H Q
theorem QbV{es:List Expr}{k:Nat}{t:TGs}{n:Nat}(hc:X.calm=true)(h:PGs X es t)
  (hn:(assignEach es X.env).length=n:=by rfl) (hst:(assignEach es X.env).findIdx? (·.1)=none:=by rfl):PG X (.Tuple es k pos) (Ql1 X.K n t):=by
 intro pins s σ H v u Q I r hw;obtain⟨a,xs,e1,hq,hl,hw⟩:=hw;subst e1;cases r;obtain⟨its,rv,ht,hz⟩:=I.tuple hq
 refine assign_Tuple_tuple (I.ok.hd hc) ht (by simp [hn,<-hl,rv.length]) hst fun h' hx=>?_
 have I1:Inv X pins σ H { s with heap:=h' }:=I.kept (t':=s.toks) fun b o e=>hx b o (Nat.ne_of_lt (Heap.lt_size e)) e
 exact h pins _ σ H xs _ Q I1 (by simpa using rv) hw
noncomputable def Qnq(to ti:TE)(t:Qjx):TG:=fun v σ H Q=>to σ H fun o H1=>ti σ H1 fun i H2=>t o i v H2 fun H3=>Q σ H3
theorem Qih{o i:Expr}{to ti:TE}{t:Qjx}(ho:PE X o to)(hi:PE X i ti)(hs:Qhl X t)
  (ha:∀v,assign (.Subscript o i pos) X.env v=(do
   let ov <-holding [v] (eval o X.env);let iv <-holding [v,ov] (eval i X.env)
   standAt pos
   holding [v,ov,iv] (setItem ov iv v)
   release [v,ov,iv] []):=by intro _;rfl):PG X (.Subscript o i pos) (Qnq to ti t):=by
 intro pins s σ H v u Q I r h;rw [ha];refine wpAny_bind (wpAny_holding (thn (ho pins s σ H _ I h) fun ov s1 ⟨x,H1,I1,r1,q1⟩=>?_));refine wpAny_bind (wpAny_holding (thn (hi pins s1 σ H1 _ I1 q1) fun iv s2 ⟨y,H2,I2,r2,q2⟩=>?_));refine wpAny_bind (wpAny_standAt (wpAny_bind (wpAny_holding (thn (hs pins s2 σ H2 x y v ov iv u _ I2 r1 r2 r q2) fun _ s3 ⟨H3,I3,q3⟩=>?_))));exact wpAny_release ⟨σ,H3,I3,q3⟩
noncomputable def QlE(te:TE)(g:TG):TS:=fun D σ H=>te σ H fun x H1=>g x σ H1 D.nx
theorem Qfe{tg e:Expr}{te:TE}{g:TG}(he:PE X e te)(hg:PG X tg g)(hs:swapsWithSole [tg] e pos.line X.env=pure false:=by rfl)(hw:swappedStores [tg] e X.env=pure none:=by rfl)
  (h1:(assignEach [tg] X.env).map (·.2)=[assign tg X.env]:=by rfl):PS X (.Assign [tg] e pos) (QlE te g):=by
 intro pins s σ H D I h;refine wpAny_Assign_stores (thn (he pins s σ H _ I h) fun v s1 ⟨x,H1,I1,r1,q1⟩=>?_) hs hw;rw [h1];exact thn (hg pins s1 σ H1 x v _ I1 r1 q1) fun _ s2 q=>q
theorem QaI{i:Nat}{x:Str}{e:Expr}{te:TE}{pos':Pos}(hN:X.N.Nodup)(hi:X.N[i]?=some x)(hx:Loc X.env.scope x)(he:PE X e te)(hs:swapsWith e (some (.Name x pos')) pos.line X.env=pure false:=by rfl)(hf:X.fn x=true\/X.env.scope.names.lookup x=some .local:=by first | exact .inl rfl | exact .inr rfl | assumption):
  PS X (.Assign [.Name x pos'] e pos) (QlE te (Y9 i)):=by
 intro pins s σ H D I h;refine wpAny_Assign_Name (thn (he pins s σ H _ I h) fun v s1 ⟨y,H1,I1,r1,q1⟩=>?_) hs;exact Z5 I1 hN hi hx r1 (fun s2 I2=>⟨_,H1,I2,q1⟩) hf
end
section
variable {X:Cx}{pos:Pos}
end
structure It where
 go:Nat->Hp->Prop
 yld:Nat->Hp->V->Hp->Prop
 stop:Nat->Hp->Prop
noncomputable def Qay(X:Cx)(pins:List (Addr×Obj))(H:Hp)(b:Addr):Prop :=
 H b=none/\b≠X.env.locals/\b∉X.fs/\(b∈X.ex\/X.s₀.heap.objs.size<=b)/\(∀x c,X.env.cells.lookup x=some c->c≠b)/\∀p∈X.pn++pins,p.1≠b
theorem Inv.fpOk{X:Cx}{pins:List (Addr×Obj)}{σ:St}{H H':Hp}{s:Shared}{b:Addr}(I:Inv X pins σ H s)(hb:s.heap.objs.size<=b)(hn:H' b=none):Qay X pins H' b:=by
 refine⟨hn,Nat.ne_of_gt (Nat.lt_of_lt_of_le I.lt hb),I.nofs hb,.inr (Nat.le_trans I.sz hb),fun x c e z=>?_,fun p hp z=>?_⟩
 ·obtain⟨v,q⟩:=I.cell x c e
  exact absurd (Nat.lt_of_lt_of_le q.lt (by rw [z];exact hb)) (Nat.lt_irrefl _)
 ·exact absurd (Nat.lt_of_lt_of_le (Heap.lt_size (I.pin p hp).1) (by rw [z];exact hb)) (Nat.lt_irrefl _)
structure Turn(P:Program)(w:World)(K:PySem.W.Frag)(tg:Expr)(J:It)(fp:List Addr)(it:Addr)(tn:Nat->Heap->Prop):Prop where
 mem:it∈fp
 obj:∀i h,tn i h->∀b∈fp,∃o,h.get? b=some o/\∀v,o.data≠.cell v
 keep:∀i h h',tn i h->(∀b∈fp,∀o,h.get? b=some o->h'.get? b=some o)->tn i h'
 item:∀(X:Cx),X.prog=P->X.w=w->X.K=K->X.calm=true->∀(i:Nat) (pins:List (Addr×Obj)) (s:Shared) (σ:St) (H:Hp) (E:Value->Shared->Prop),Inv X pins σ H s->(∀b∈fp,Qay X pins H b)->tn i s.heap->J.go i H ->
  wpAny (model P w) X.A (pyNext (.ref it)) (fun r s1=>∃u,r=some u /\
   wpAny (model P w) X.A (letOwnedTupleGo tg (.ref it) u) (fun _ s2=>∃x H',Inv X pins σ H' s2/\RelV x u/\J.yld i H x H'/\tn (i+1) s2.heap/\∀b∈fp,H' b=none) E s1) E s
 done:∀(X:Cx),X.prog=P->X.w=w->X.K=K->X.calm=true->∀(i:Nat) (pins:List (Addr×Obj)) (s:Shared) (σ:St) (H:Hp) (E:Value->Shared->Prop),Inv X pins σ H s->(∀b∈fp,Qay X pins H b)->tn i s.heap->J.stop i H ->
  wpAny (model P w) X.A (pyNext (.ref it)) (fun r s1=>r=none/\Inv X pins σ H s1) E s
 self:∀(A:Around) (i:Nat) (s:Shared) (Q:Value->Shared->Prop) (E:Value->Shared->Prop),tn i s.heap->Q (.ref it) s->wpAny (model P w) A (pyIter (.ref it)) Q E s
noncomputable abbrev TI:=St->Hp->(It->Hp->Prop)->Prop
noncomputable def PIE(X:Cx)(pins:List (Addr×Obj))(σ:St)(tg:Expr)(R:It->Hp->Prop)(itv:Value)(s2:Shared):Prop :=
 ∃(it:Addr) (fp:List Addr) (tn:Nat->Heap->Prop) (J:It) (H':Hp),itv=.ref it/\Inv X pins σ H' s2/\Turn X.prog X.w X.K tg J fp it tn/\tn 0 s2.heap/\(∀b∈fp,Qay X pins H' b)/\R J H'
noncomputable def PI(X:Cx)(tg iter:Expr)(wi:TI):Prop :=
 ∀(pins:List (Addr×Obj)) (s:Shared) (σ:St) (H:Hp) (R:It->Hp->Prop),Inv X pins σ H s->wi σ H R ->
  wpAny (model X.prog X.w) X.A (eval iter X.env) (fun v s1=>wpAny (model X.prog X.w) X.A (pyIter v) (PIE X pins σ tg R) X.xe s1) X.xe s
theorem Qcr{M:Model}{A:Around}{E:Value->Shared->Prop}{s:Shared}{tg:Expr}{it:Addr}{u:Value}{o:Obj}{n:String}{vs:Array Value}{Q:Unit->Shared->Prop}(ho:s.heap.get? it=some o)(hc:o.cls=.type n)(hd:o.data=.fields vs)
  (hn:["enumerate","zip","dict_itemiterator","dict_reverseitemiterator","odict_iterator","itertools.zip_longest","itertools.pairwise"].contains n=false) (hQ:Q () s):wpAny M A (letOwnedTupleGo tg (.ref it) u) Q E s:=by
 unfold letOwnedTupleGo
 cases tg<;>first
  | exact wpAny_pure hQ
  | (cases u<;>first
    | exact wpAny_pure hQ
    | (refine wpAny_bind (wpAny_load ho ?_)
       rw [hc,hd];show wpAny M A (if(["enumerate","zip","dict_itemiterator","dict_reverseitemiterator","odict_iterator","itertools.zip_longest","itertools.pairwise"].contains n&&vs[0]?==some (rawInt _))=true then _ else _) Q E s
       rw [if_neg (by intro h;rw [hn,Bool.false_and]at h;cases h)]
       exact wpAny_pure hQ))
noncomputable def Itl(K:PySem.W.Frag)(a:Addr):It :=
 ⟨fun i H=>∃xs x,SqL K H a xs/\xs[i]?=some x,fun i H x H'=>H'=H/\∀xs,SqL K H a xs->xs[i]?=some x,fun i H=>∃xs,SqL K H a xs/\xs.length<=i⟩
noncomputable def Itt(K:PySem.W.Frag)(a:Addr):It :=
 ⟨fun i H=>∃xs x,SqT K H a xs/\xs[i]?=some x,fun i H x H'=>H'=H/\∀xs,SqT K H a xs->xs[i]?=some x,fun i H=>∃xs,SqT K H a xs/\xs.length<=i⟩
noncomputable def Itr(lo:Int)(n:Nat):It:=⟨fun i _=>i<n,fun i H x H'=>H'=H/\x=.int (lo+i),fun i _=>n<=i⟩
theorem Qbx{P:Program}{w:World}{K:PySem.W.Frag}{tg:Expr}(a it:Addr):Turn P w K tg (Itl K a) [it] it (fun i h=>h.IsListIter it a i) where
 mem:=by simp
 obj:=fun i h st b hb=>by
  have e:b=it:=by simpa using hb
  subst e;obtain⟨o,e,c,d⟩:=st
  exact⟨o,e,fun v z=>by rw [d]at z;cases z⟩
 keep:=fun i h h' st k=>st.at fun o e=>k it (by simp) o e
 item:=by
  intro X hP hw hK hc i pins s σ H E I hf st hg;subst hP hw hK;obtain⟨xs,x,hq,hx⟩:=hg;obtain⟨its,rv,p,hz⟩:=I.list hq;obtain⟨u,hu,ru⟩:=rv.get hx
  obtain⟨f0,f1,f2,f3,f4,f5⟩:=hf it (by simp)
  refine wpAny_pyNext_list_item st p.isList (x:=u) (by simpa using hu) fun h' st' sb=>?_
  have I1:Inv X pins σ H { s with heap:=h' }:=I.turned (t':=s.toks) (fun b o hb e=>(sb.2 b hb).trans e) f0 f1 f3 f4 f5;obtain⟨o,e,c,d⟩:=id st'
  exact⟨u,rfl,Qcr (s:={ s with heap:=h' }) e c d (by decide) ⟨x,H,I1,ru,⟨rfl,fun ys hy=>by rw [I.list_inj hy hq];exact hx⟩,st',fun b hb=>(hf b hb).1⟩⟩
 done:=by
  intro X hP hw hK hc i pins s σ H E I hf st hg;subst hP hw hK;obtain⟨xs,hq,hx⟩:=hg;obtain⟨its,rv,p,hz⟩:=I.list hq
  obtain⟨f0,f1,f2,f3,f4,f5⟩:=hf it (by simp)
  have hl:=rv.length
  exact wpAny_pyNext_list_end (I.ok.hd hc) st p.isList (by simp;omega) fun h' eb=>⟨rfl,I.turned (t':=s.toks) (fun b o hb e=>eb b o hb e) f0 f1 f3 f4 f5⟩
 self:=fun _ _ _ _ _ st h=>wpAny_pyIter_listiter st h
theorem Qa4{P:Program}{w:World}{K:PySem.W.Frag}{tg:Expr}(a it:Addr):Turn P w K tg (Itt K a) [it] it (fun i h=>h.IsTupleIter it a i) where
 mem:=by simp
 obj:=fun i h st b hb=>by
  have e:b=it:=by simpa using hb
  subst e;obtain⟨o,e,c,d⟩:=st
  exact⟨o,e,fun v z=>by rw [d]at z;cases z⟩
 keep:=fun i h h' st k=>st.at fun o e=>k it (by simp) o e
 item:=by
  intro X hP hw hK hc i pins s σ H E I hf st hg;subst hP hw hK;obtain⟨xs,x,hq,hx⟩:=hg;obtain⟨its,rv,p,hz⟩:=I.tuple hq;obtain⟨u,hu,ru⟩:=rv.get hx
  obtain⟨f0,f1,f2,f3,f4,f5⟩:=hf it (by simp)
  refine wpAny_pyNext_tuple_item st (show s.heap.IsTuple a its.toArray from p) (x:=u) (by simpa using hu) fun h' st' sb=>?_
  have I1:Inv X pins σ H { s with heap:=h' }:=I.turned (t':=s.toks) (fun b o hb e=>(sb.2 b hb).trans e) f0 f1 f3 f4 f5;obtain⟨o,e,c,d⟩:=id st'
  exact⟨u,rfl,Qcr (s:={ s with heap:=h' }) e c d (by decide) ⟨x,H,I1,ru,⟨rfl,fun ys hy=>by rw [I.tuple_inj hy hq];exact hx⟩,st',fun b hb=>(hf b hb).1⟩⟩
 done:=by
  intro X hP hw hK hc i pins s σ H E I hf st hg;subst hP hw hK;obtain⟨xs,hq,hx⟩:=hg;obtain⟨its,rv,p,hz⟩:=I.tuple hq
  obtain⟨f0,f1,f2,f3,f4,f5⟩:=hf it (by simp)
  have hl:=rv.length
  exact wpAny_pyNext_tuple_end (I.ok.hd hc) st (show s.heap.IsTuple a its.toArray from p) (by simp;omega) fun h' eb=>⟨rfl,I.turned (t':=s.toks) (fun b o hb e=>eb b o hb e) f0 f1 f3 f4 f5⟩
 self:=fun _ _ _ _ _ st h=>wpAny_pyIter_tupleiter st h
theorem Qa5{P:Program}{w:World}{K:PySem.W.Frag}{tg:Expr}(it:Addr)(lo:Int)(n:Nat):Turn P w K tg (Itr lo n) [it] it (fun i h=>IsRangeIter h it (lo+(i:Nat)*1) ((n:Int) - (i:Nat)) 1) where
 mem:=by simp
 obj:=fun i h st b hb=>by
  have e:b=it:=by simpa using hb
  subst e
  exact⟨_,st,fun v z=>by
   have z':Data.fields _=Data.cell v:=z
   cases z'⟩
 keep:=fun i h h' st k=>k it (by simp) _ st
 item:=by
  intro X hP hw hK hc i pins s σ H E I hf st hg;subst hP hw hK
  obtain⟨f0,f1,f2,f3,f4,f5⟩:=hf it (by simp)
  have W:=Walks.range (prog:=X.prog) (w:=X.w) (I.ok.hd hc) it lo 1 n;refine W.item i s _ _ hg st fun v h' tk hv st' kk=>?_;obtain⟨t,rfl⟩:=hv
  have I1:Inv X pins σ H { s with heap:=h',toks:=tk }:=I.turned (fun b o hb e=>kk b o (by simpa using hb) e) f0 f1 f3 f4 f5
  refine⟨_,rfl,Qcr (s:={ s with heap:=h',toks:=tk }) (n:="range_iterator") st' rfl rfl (by decide) ⟨.int (lo+i),H,I1,⟨t,?_⟩,⟨rfl,rfl⟩,st',fun b hb=>(hf b hb).1⟩⟩
  rw [Int.mul_one]
 done:=by
  intro X hP hw hK hc i pins s σ H E I hf st hg;subst hP hw hK
  obtain⟨f0,f1,f2,f3,f4,f5⟩:=hf it (by simp)
  exact wpAny_pyNext_range_end (I.ok.hd hc) st (by have:n<=i:=hg;omega) fun h' eb=>⟨rfl,I.turned (t':=s.toks) (fun b o hb e=>eb b o hb e) f0 f1 f3 f4 f5⟩
 self:=fun _ _ _ _ _ st h=>wpAny_pyIter_rangeiter st h
end L2
namespace L2
open PySem PySem.Spec PyProof.Rows
section
variable {X:Cx}{tg:Expr}
noncomputable def Qkv(K:PySem.W.Frag)(tl:TE):TI:=fun σ H R=>tl σ H fun x H1=>∃a,x=.ref a/\(∃xs,SqL K H1 a xs)/\R (Itl K a) H1
noncomputable def Qne(K:PySem.W.Frag)(tl:TE):TI:=fun σ H R=>tl σ H fun x H1=>∃a,x=.ref a/\(∃xs,SqT K H1 a xs)/\R (Itt K a) H1
theorem Qga{l:Expr}{tl:TE}(hl:PE X l tl):PI X tg l (Qkv X.K tl):=by
 intro pins s σ H R I h;refine thn (hl pins s σ H _ I h) fun v s1 ⟨x,H1,I1,r1,q1⟩=>?_;obtain⟨a,e,⟨xs,hq⟩,q⟩:=q1;subst e;cases r1;obtain⟨its,rv,p,hz⟩:=I1.list hq;refine wpAny_pyIter_list p.isList ?_;refine⟨s1.heap.objs.size,[s1.heap.objs.size],_,_,H1,rfl,I1.kept (t':=s1.toks) fun b o e=>Heap.get?_push_of_some _ e,Qbx a _,⟨_,Heap.get?_push_size _ rfl,rfl,rfl⟩,fun b hb=>?_,q⟩
 have e:b=s1.heap.objs.size:=by simpa using hb
 subst e;exact I1.fpOk (Nat.le_refl _) (I1.hok.fresh (Nat.le_refl _))
theorem Qid{l:Expr}{tl:TE}(hl:PE X l tl):PI X tg l (Qne X.K tl):=by
 intro pins s σ H R I h;refine thn (hl pins s σ H _ I h) fun v s1 ⟨x,H1,I1,r1,q1⟩=>?_;obtain⟨a,e,⟨xs,hq⟩,q⟩:=q1;subst e;cases r1;obtain⟨its,rv,p,hz⟩:=I1.tuple hq;refine wpAny_pyIter_tuple (show s1.heap.IsTuple a its.toArray from p) ?_;refine⟨s1.heap.objs.size,[s1.heap.objs.size],_,_,H1,rfl,I1.kept (t':=s1.toks) fun b o e=>Heap.get?_push_of_some _ e,Qa4 a _,⟨_,Heap.get?_push_size _ rfl,rfl,rfl⟩,fun b hb=>?_,q⟩
 have e:b=s1.heap.objs.size:=by simpa using hb
 subst e;exact I1.fpOk (Nat.le_refl _) (I1.hok.fresh (Nat.le_refl _))
theorem QaF{pins:List (Addr×Obj)}{σ:St}{H:Hp}{s:Shared}{R:It->Hp->Prop}{E:Value->Shared->Prop}{lo hi:Int}{t u v:Tok}{tk:Nat}(I:Inv X pins σ H s)(h1:-(2 ^ 62)<=lo)(h2:lo<2 ^ 62)(h3:-(2 ^ 62)<=hi)(h4:hi<2 ^ 62)
  (q:R (Itr lo (hi-lo).toNat) H):wpAny (model X.prog X.w) X.A (pyIter (.ref s.heap.objs.size)) (PIE X pins σ tg R) E { s with heap:=s.heap.push { cls:=.type "range",data:=.fields #[.int lo t,.int hi u,.int 1 v] },toks:=tk }:=by
 refine wpAny_pyIter_range (IsRange.new ..) (small_one h1 h2 h3 h4) ?_;have I1:Inv X pins σ H { s with heap:=s.heap.push { cls:=.type "range",data:=.fields #[.int lo t,.int hi u,.int 1 v] },toks:=tk }:=I.kept fun b o e=>Heap.get?_push_of_some _ e
 refine⟨(s.heap.push { cls:=.type "range",data:=.fields #[.int lo t,.int hi u,.int 1 v] }).objs.size,[(s.heap.push { cls:=.type "range",data:=.fields #[.int lo t,.int hi u,.int 1 v] }).objs.size],_,_,H,rfl,
  I1.kept (t':=tk) fun b o e=>Heap.get?_push_of_some _ e,Qa5 _ lo (hi-lo).toNat,?_,fun b hb=>?_,q⟩
 ·have e1:lo+((0:Nat):Int)*1=lo:=by simp
  have e2:(((hi-lo).toNat:Nat):Int) - ((0:Nat):Int)=Builtin.Range.rangeSize lo hi 1:=by rw [rangeSize_one];split<;>omega
  show IsRangeIter _ _ (lo+((0:Nat):Int)*1) ((((hi-lo).toNat:Nat):Int) - ((0:Nat):Int)) 1;rw [e1,e2];exact Heap.get?_push_size _ rfl
 ·have e:b=(s.heap.push { cls:=.type "range",data:=.fields #[.int lo t,.int hi u,.int 1 v] }).objs.size:=by simpa using hb
  subst e;exact I1.fpOk (Nat.le_refl _) (I1.hok.fresh (Nat.le_refl _))
noncomputable def Qku(ta:TA):TI:=fun σ H R=>ta σ H fun vs H1=>∃j:Int,vs=[.int j]/\-(2 ^ 62)<=j/\j<2 ^ 62/\R (Itr 0 j.toNat) H1
noncomputable def Qkt(ta:TA):TI:=fun σ H R=>ta σ H fun vs H1=>∃i j:Int,vs=[.int i,.int j]/\(-(2 ^ 62)<=i/\i<2 ^ 62/\-(2 ^ 62)<=j/\j<2 ^ 62)/\R (Itr i (j-i).toNat) H1
theorem QbU{a:Expr}{ta:TA}{p pos:Pos}(hg:Gl X "range") (hm:X.mg "range"=none) (ha:PA X [a] ta) (hs:starEach [a] X.env=[(false,eval a X.env)]:=by rfl):PI X tg (.Call (.Name "range" p) [a] [] pos) (Qku ta):=by
 intro pins s σ H R I h;refine Call_ (Zz I hg hm boot_range (PyProof.Rows.callWith_type1 (thn (ha pos pins s σ H _ I h) fun us s1 ⟨vs,H1,I1,r1,q1⟩=>?_) hs rfl));obtain⟨j,e,q1,q2,q⟩:=q1;subst e
 cases r1 with
 | cons r rr =>
  cases rr;obtain⟨t,rfl⟩:=r
  exact call_range_1 (QaF I1 (by omega) (by omega) q1 q2 (by simpa using q))
theorem QbT{a b:Expr}{ta:TA}{p pos:Pos}(hg:Gl X "range") (hm:X.mg "range"=none) (ha:PA X [a,b] ta) (hs:starEach [a,b] X.env=[(false,eval a X.env),(false,eval b X.env)]:=by rfl) (hs2:starEach [b] X.env=[(false,eval b X.env)]:=by rfl):
  PI X tg (.Call (.Name "range" p) [a,b] [] pos) (Qkt ta):=by
 intro pins s σ H R I h
 refine Call_ (Zz I hg hm boot_range (PyProof.Rows.callWith_type1 (thn (ha pos pins s σ H _ I h) fun us s1 ⟨vs,H1,I1,r1,q1⟩=>?_) (by rw [hs,hs2]) (by rw [hs2];rfl)))
 obtain⟨i,j,e,⟨q1,q2,q3,q4⟩,q⟩:=q1;subst e
 cases r1 with
 | cons r rr =>
  cases rr with
  | cons r' rr =>
   cases rr;obtain⟨t,rfl⟩:=r;obtain⟨t',rfl⟩:=r';exact call_range_2 (QaF I1 q1 q2 q3 q4 q)
noncomputable def Qmj(wi:TI)(g:TG)(tb:TS):TS:=fun D σ H=>wi σ H fun J H1=>∃W:Nat->Nat->St->Hp->Prop,(∃m,W 0 m σ H1)/\∀i m σ H,W i m σ H ->
 (J.stop i H/\D.nx σ H)\/(J.go i H/\∃N:St->Hp->Prop,(∀σ' H',N σ' H'->∃m',m'<m/\W (i+1) m' σ' H')/\∀x H',J.yld i H x H'->g x σ H' fun σ2 H2=>tb { D with nx:=N,ct:=N,bk:=D.nx } σ2 H2)
noncomputable def Yi(fp:List Addr)(h:Heap):List (Addr×Obj):=fp.filterMap fun b=>(h.get? b).map fun o=>(b,o)
theorem Zn{fp:List Addr}{h:Heap}{b:Addr}{o:Obj}(hb:b∈fp)(e:h.get? b=some o):(b,o)∈Yi fp h:=List.mem_filterMap.mpr ⟨b,hb,by rw [e];rfl⟩
theorem Qb5{fp:List Addr}{h:Heap}{p:Addr×Obj}(hp:p∈Yi fp h):p.1∈fp/\h.get? p.1=some p.2:=by
 obtain⟨b,hb,e⟩:=List.mem_filterMap.mp hp
 cases q:h.get? b with
 | none=>rw [q]at e;cases e
 | some o =>
  rw [q]at e;have e':(b,o)=p:=Option.some.inj e;subst e';exact⟨hb,q⟩
theorem Inv.pinned{pins:List (Addr×Obj)}{σ:St}{H:Hp}{s:Shared}{fp:List Addr}(I:Inv X pins σ H s)(hf:∀b∈fp,Qay X pins H b)(ho:∀b∈fp,∃o,s.heap.get? b=some o/\∀v,o.data≠.cell v):Inv X (pins++Yi fp s.heap) σ H s :=
 I.pins_of fun p hp=>(List.mem_append.mp hp).elim (fun z=>I.pin p (List.mem_append_right _ z)) fun z=>by
  obtain⟨hb,e⟩:=Qb5 z;obtain⟨f0,f1,f2,_⟩:=hf p.1 hb;obtain⟨o,e',d⟩:=ho p.1 hb;rw [e]at e';cases e';exact⟨e,f0,f1,f2,d⟩
theorem Inv.unpinned{pins pl:List (Addr×Obj)}{σ:St}{H:Hp}{s:Shared}(I:Inv X (pins++pl) σ H s):Inv X pins σ H s:=I.pins_of fun p hp=>I.pin p (List.mem_append_right _ (List.mem_append_left _ hp))
theorem QaJ{iter:Expr}{body:List Stmt}{wi:TI}{g:TG}{tb:TS}{pos:Pos}(hp:PassesOwn (model X.prog X.w) X.A X.env X.xe)(hc:X.calm=true)(hi:PI X tg iter wi)(hg:PG X tg g)(hb:PSs X body tb)
  (hs:∀x,foldedSetIterable iter X.env x=pure x:=by intro _;rfl):PS X (.For tg iter body [] pos) (Qmj wi g tb):=by
 intro pins s σ H D I h;refine wpAny_For (thn (hi pins s σ H _ I h) fun v s1 h1=>thn h1 fun itv s2 h2=>?_) hs;obtain⟨it,fp,tn,J,H2,e,I2,T,st2,f2,W,⟨m0,w0⟩,turn⟩:=h2;subst e
 -- what stays true of the iterator's objects through the loop
 have stat:∀{H':Hp},(∀b∈fp,H' b=none)->∀b∈fp,Qay X pins H' b:=fun hn b hb=>⟨hn b hb,(f2 b hb).2⟩;refine codeAny_forLoop_any (fun n s'=>∃i σ' H',Inv X pins σ' H' s'/\tn i s'.heap/\(∀b∈fp,H' b=none)/\W i n σ' H') ?_ m0 ⟨0,σ,H2,I2,st2,fun b hb=>(f2 b hb).1,w0⟩;rintro n s3 ⟨i,σ3,H3,I3,st3,fr3,w3⟩
 rcases turn i n σ3 H3 w3 with⟨stop,qn⟩ | ⟨go,N,hN,step⟩
 ·refine wpAny_passesOwn hp (thn (T.done X rfl rfl rfl hc i pins s3 σ3 H3 X.xe I3 (stat fr3) st3 stop) fun r s4 ⟨hr,I4⟩=>?_);subst hr;exact wpAny_execs_nil ⟨σ3,H3,I4,qn⟩
 ·refine wpAny_passesOwn hp (thn (T.item X rfl rfl rfl hc i pins s3 σ3 H3 X.xe I3 (stat fr3) st3 go) fun r s4 ⟨u,hr,h4⟩=>?_);subst hr;refine wpAny_passesOwn hp (thn h4 fun _ s5 ⟨x,H5,I5,r5,y5,st5,fr5⟩=>?_);have I5':=I5.pinned (stat fr5) (T.obj _ _ st5);refine wpAny_passesOwn hp (thn (hg _ s5 σ3 H5 x u _ I5' r5 (step x H5 y5)) fun _ s6 ⟨σ6,H6,I6,q6⟩=>?_);refine wpAny_passesOwn hp (thn (hb _ s6 σ6 H6 _ I6 q6) fun f s7 q7=>?_)
  have again:∀{σ7:St} {H7:Hp},Inv X (pins++Yi fp s5.heap) σ7 H7 s7->N σ7 H7->∃m,m<n/\∃i σ' H',Inv X pins σ' H' s7/\tn i s7.heap/\(∀b∈fp,H' b=none)/\W i m σ' H':=fun {σ7 H7} I7 n7=>by
   obtain⟨m',hm,w7⟩:=hN σ7 H7 n7;refine⟨m',hm,i+1,σ7,H7,I7.unpinned,T.keep _ _ _ st5 fun b hb o e=>(I7.pin (b,o) (List.mem_append_right _ (List.mem_append_right _ (Zn hb e)))).1,fun b hb=>?_,w7⟩;obtain⟨o,e,d⟩:=T.obj _ _ st5 b hb;exact(I7.pin (b,o) (List.mem_append_right _ (List.mem_append_right _ (Zn hb e)))).2.1
  cases f with
  | next=>obtain⟨σ7,H7,I7,n7⟩:=q7;exact again I7 n7
  | cont=>obtain⟨σ7,H7,I7,n7⟩:=q7;exact again I7 n7
  | brk=>obtain⟨σ7,H7,I7,q7⟩:=q7;exact⟨σ7,H7,I7.unpinned,q7⟩
  | ret v=>obtain⟨x7,σ7,H7,I7,r7,q7⟩:=q7;exact⟨x7,σ7,H7,I7.unpinned,r7,q7⟩
end
end L2
namespace L2
open PySem PySem.Spec PyProof.Rows
noncomputable abbrev R2:=V->V->Hp->VK->Prop
noncomputable def OpR(X:Cx)(f:Value->Value->Sem Value)(r:R2):Prop :=
 ∀(pins:List (Addr×Obj)) (s:Shared) (σ:St) (H:Hp) (x y:V) (v u:Value) (Q:VK),Inv X pins σ H s->RelV x v->RelV y u->r x y H Q ->
  wpAny (model X.prog X.w) X.A (f v u) (EP X pins σ Q) X.xe s
noncomputable def UnR(X:Cx)(f:Value->Sem Value)(r:V->Hp->VK->Prop):Prop :=
 ∀(pins:List (Addr×Obj)) (s:Shared) (σ:St) (H:Hp) (x:V) (v:Value) (Q:VK),Inv X pins σ H s->RelV x v->r x H Q ->
  wpAny (model X.prog X.w) X.A (f v) (EP X pins σ Q) X.xe s
noncomputable def CallR(X:Cx)(f:Value)(r:List V->Hp->VK->Prop):Prop :=
 ∀(pins:List (Addr×Obj)) (s:Shared) (σ:St) (H:Hp) (xs:List V) (us:List Value) (Q:VK),Inv X pins σ H s->Vals xs us->r xs H Q ->
  wpAny (model X.prog X.w) X.A (call f us) (EP X pins σ Q) X.xe s
noncomputable def Qot(X:Cx)(r:V->Hp->(Bool->Hp->Prop)->Prop):Prop :=
 ∀(pins:List (Addr×Obj)) (s:Shared) (σ:St) (H:Hp) (x:V) (v:Value) (Q:Bool->Hp->Prop),Inv X pins σ H s->RelV x v->r x H Q ->
  wpAny (model X.prog X.w) X.A (truthy v) (TP X pins σ Q) X.xe s
noncomputable def tOp(r:R2)(ta tb:TE):TE:=fun σ H Q=>ta σ H fun x H1=>tb σ H1 fun y H2=>r x y H2 Q
noncomputable def tUn(r:V->Hp->VK->Prop)(ta:TE):TE:=fun σ H Q=>ta σ H fun x H1=>r x H1 Q
noncomputable def rI(C:Int->Int->Prop)(g:Int->Int->V):R2:=fun x y H Q=>∃i j,x=.int i/\y=.int j/\C i j/\Q (g i j) H
noncomputable def rI0(g:Int->Int->V):R2:=fun x y H Q=>∃i j,x=.int i/\y=.int j/\Q (g i j) H
noncomputable def rU(g:Int->V):V->Hp->VK->Prop:=fun x H Q=>∃i,x=.int i/\Q (g i) H
section
variable {X:Cx}{a b c:Expr}{ta tb tc:TE}{pos:Pos}
theorem Qlq(ha:PE X a ta)(hb:PE X b tb){pins:List (Addr×Obj)}{s:Shared}{σ:St}{H:Hp}{R:V->V->Hp->Prop}(I:Inv X pins σ H s)
  (h:ta σ H fun x H1=>tb σ H1 fun y H2=>R x y H2) {Q:Value->Shared->Prop} {f:Value->Value->Sem Value}
  (hf:∀v u s2 x y H2,Inv X pins σ H2 s2->RelV x v->RelV y u->R x y H2->wpAny (model X.prog X.w) X.A (f v u) Q X.xe s2):
  wpAny (model X.prog X.w) X.A (eval a X.env) (fun v s₁=>wpAny (model X.prog X.w) X.A (eval b X.env) (fun u s₂=>wpAny (model X.prog X.w) X.A (f v u) Q X.xe s₂) X.xe s₁) X.xe s:=by
 refine thn (ha pins s σ H _ I h) fun v s1 ⟨x,H1,I1,r1,q1⟩=>?_;refine thn (hb pins s1 σ H1 _ I1 q1) fun u s2 ⟨y,H2,I2,r2,q2⟩=>?_;exact hf v u s2 x y H2 I2 r1 r2 q2
theorem Qkc{op:Operator}{r:R2}(ho:OpR X (binaryOp op) r)(ha:PE X a ta)(hb:PE X b tb):PE X (.BinOp a op b pos) (tOp r ta tb):=by
 intro pins s σ H Q I h;exact wpAny_BinOp (Qlq ha hb I h fun v u s2 x y H2 I2 rx ry q=>ho pins s2 σ H2 x y v u Q I2 rx ry q)
theorem Qij{op:UnaryOp}{r:V->Hp->VK->Prop}(ho:UnR X (unaryOp op) r)(ha:PE X a ta):PE X (.UnaryOp op a pos) (tUn r ta):=by
 intro pins s σ H Q I h;exact UnaryOp_ (thn (ha pins s σ H _ I h) fun v s1 ⟨x,H1,I1,r1,q1⟩=>ho pins s1 σ H1 x v Q I1 r1 q1)
theorem opI{f:Value->Value->Sem Value}{C:Int->Int->Prop}{g:Int->Int->Int}
  (rule:∀(i j:Int) (t u:Tok) (s:Shared) (Q:Value->Shared->Prop) (E:Value->Shared->Prop),C i j->Q (.int (g i j) s.toks) { s with toks:=s.toks+1 }->wpAny (model X.prog X.w) X.A (f (.int i t) (.int j u)) Q E s):
  OpR X f (rI C fun i j=>.int (g i j)):=by
 intro pins s σ H x y v u Q I rx ry h;obtain⟨i,j,rfl,rfl,hc,q⟩:=h;obtain⟨t,rfl⟩:=rx;obtain⟨t',rfl⟩:=ry;exact rule i j t t' s _ _ hc ⟨.int (g i j),H,I.tok _,⟨_,rfl⟩,q⟩
theorem QlU{f:Value->Value->Sem Value}{g:Int->Int->Int}
  (rule:∀(i j:Int) (t u:Tok) (s:Shared) (Q:Value->Shared->Prop) (E:Value->Shared->Prop),Q (.int (g i j) s.toks) { s with toks:=s.toks+1 }->wpAny (model X.prog X.w) X.A (f (.int i t) (.int j u)) Q E s):
  OpR X f (rI0 fun i j=>.int (g i j)):=by
 intro pins s σ H x y v u Q I rx ry h;obtain⟨i,j,rfl,rfl,q⟩:=h;obtain⟨t,rfl⟩:=rx;obtain⟨t',rfl⟩:=ry;exact rule i j t t' s _ _ ⟨.int (g i j),H,I.tok _,⟨_,rfl⟩,q⟩
theorem Qjr{f:Value->Value->Sem Value}{g:Int->Int->Bool}
  (rule:∀(i j:Int) (t u:Tok) (s:Shared) (Q:Value->Shared->Prop) (E:Value->Shared->Prop),Q (.bool (g i j)) s->wpAny (model X.prog X.w) X.A (f (.int i t) (.int j u)) Q E s):
  OpR X f (rI0 fun i j=>.bl (g i j)):=by
 intro pins s σ H x y v u Q I rx ry h;obtain⟨i,j,rfl,rfl,q⟩:=h;obtain⟨t,rfl⟩:=rx;obtain⟨t',rfl⟩:=ry;exact rule i j t t' s _ _ ⟨.bl (g i j),H,I,rfl,q⟩
noncomputable def Qov(i j:Int):Prop:=0<=j/\j<=1000000/\i.natAbs<2 ^ 64
noncomputable def CMul(i j:Int):Prop:=(-(2 ^ 64) < i/\i<2 ^ 64)\/(-(2 ^ 64) < j/\j<2 ^ 64)
theorem CMul.ok{i j:Int}(h:CMul i j):IntMulOk i j:=by
 rcases h with⟨h1,h2⟩ | ⟨h1,h2⟩
 ·exact .of_left (intBits_le_64 h1 h2)
 ·exact .of_right (intBits_le_64 h1 h2)
theorem QiF:OpR X (binaryOp .Add) (rI0 fun i j=>.int (i+j)):=QlU fun _ _ _ _ _ _ _ q=>add_int q
theorem Qis:OpR X (binaryOp .Sub) (rI0 fun i j=>.int (i-j)):=QlU fun _ _ _ _ _ _ _ q=>sub_int q
theorem Qiy:OpR X (binaryOp .Mod) (rI (fun _ j=>0<j) fun i j=>.int (i % j)):=opI fun i j _ _ _ _ _ hc q=>by
 have h1:(0:Int) < j:=hc
 exact mod_int' (by omega) (by rw [Int.fmod_eq_emod_of_nonneg i (by omega)];exact q)
theorem Qiu:OpR X (binaryOp .Pow) (rI Qov fun i j=>.int (i ^ j.toNat)):=opI fun _ _ _ _ _ _ _ hc q=>pow_int_small hc.1 hc.2.1 hc.2.2 q
theorem unI{f:Value->Sem Value}{g:Int->Int}
  (rule:∀(i:Int) (t:Tok) (s:Shared) (Q:Value->Shared->Prop) (E:Value->Shared->Prop),Q (.int (g i) s.toks) { s with toks:=s.toks+1 }->wpAny (model X.prog X.w) X.A (f (.int i t)) Q E s):
  UnR X f (rU fun i=>.int (g i)):=by
 intro pins s σ H x v Q I rx h;obtain⟨i,rfl,q⟩:=h;obtain⟨t,rfl⟩:=rx;exact rule i t s _ _ ⟨.int (g i),H,I.tok _,⟨_,rfl⟩,q⟩
theorem Qe4:UnR X (unaryOp .USub) (rU fun i=>.int (-i)):=unI fun _ _ _ _ _ q=>neg_int q
end
noncomputable def scal:V->V->Bool
 | .non,.non=>true | .non,.int _=>true | .int _,.non=>true | .non,.bl _=>true | .bl _,.non=>true | .non,.str _=>true | .str _,.non=>true
 | .int _,.int _=>true | .bl _,.bl _=>true | .str _,.str _=>true | .byt _,.byt _=>true
 | .int _,.str _=>true | .str _,.int _=>true | .bl _,.str _=>true | .str _,.bl _=>true
 | _,_=>false
noncomputable def rEq:R2:=fun x y H Q=>scal x y=true/\Q (.bl (decide (x=y))) H
noncomputable def rNe:R2:=fun x y H Q=>scal x y=true/\Q (.bl (!decide (x=y))) H
theorem QcG{i j:Int}:decide (V.int i=V.int j)=(i==j):=by
 rw [Bool.eq_iff_iff];simp
theorem Qft{i j:Bool}:decide (V.bl i=V.bl j)=(i==j):=by
 rw [Bool.eq_iff_iff];simp
theorem QcF{i j:Str}:decide (V.str i=V.str j)=(i==j):=by
 rw [Bool.eq_iff_iff];simp
theorem QcH{i j:Array UInt8}:decide (V.byt i=V.byt j)=(i.toList==j.toList):=by
 rw [Bool.eq_iff_iff];cases i;cases j;simp
section
variable {X:Cx}{a b c:Expr}{ta tb tc:TE}{pos:Pos}
theorem Qp{pins:List (Addr×Obj)}{σ:St}{H:Hp}{s:Shared}{Q:VK}{k k':Bool}(I:Inv X pins σ H s)(q:Q (.bl k) H)(e:k=k'):EP X pins σ Q (.bool k') s:=by
 subst e;exact⟨.bl k,H,I,rfl,q⟩
theorem Qkm:OpR X (compareOp .Eq) rEq:=by
 intro pins s σ H x y v u Q I rx ry h;obtain⟨hs,q⟩:=h
 cases x with
 | non =>
  cases rx
  cases y with
  | non=>cases ry;exact PySem.EqNone.eq_none_none (Qp I q (by simp))
  | bl j=>cases ry;exact PySem.EqNone.eq_none_bool (Qp I q (by simp))
  | int j=>obtain⟨t',rfl⟩:=ry;exact PySem.EqNone.eq_none_int (Qp I q (by simp))
  | str j=>obtain⟨t',rfl⟩:=ry;exact PySem.EqNone.eq_none_str (Qp I q (by simp))
  | _=>exact absurd (show false=true from hs) Bool.false_ne_true
 | bl i =>
  cases rx
  cases y with
  | non=>cases ry;exact PySem.EqNone.eq_bool_none (Qp I q (by simp))
  | bl j=>cases ry;exact eq_bool (Qp I q Qft)
  | str j=>obtain⟨t',rfl⟩:=ry;exact PySem.EqMixed.eq_bool_str (Qp I q (by simp))
  | _=>exact absurd (show false=true from hs) Bool.false_ne_true
 | int i =>
  obtain⟨t,rfl⟩:=rx
  cases y with
  | non=>cases ry;exact PySem.EqNone.eq_int_none (Qp I q (by simp))
  | int j=>obtain⟨t',rfl⟩:=ry;exact eq_int (Qp I q QcG)
  | str j=>obtain⟨t',rfl⟩:=ry;exact PySem.EqMixed.eq_int_str (Qp I q (by simp))
  | _=>exact absurd (show false=true from hs) Bool.false_ne_true
 | str i =>
  obtain⟨t,rfl⟩:=rx
  cases y with
  | non=>cases ry;exact PySem.EqNone.eq_str_none (Qp I q (by simp))
  | bl j=>cases ry;exact PySem.EqMixed.eq_str_bool (Qp I q (by simp))
  | int j=>obtain⟨t',rfl⟩:=ry;exact PySem.EqMixed.eq_str_int (Qp I q (by simp))
  | str j=>obtain⟨t',rfl⟩:=ry;exact eq_str (Qp I q QcF)
  | _=>exact absurd (show false=true from hs) Bool.false_ne_true
 | byt i =>
  obtain⟨t,rfl⟩:=rx
  cases y with
  | byt j=>obtain⟨t',rfl⟩:=ry;exact PySem.W.eq_bytes (Qp I q QcH)
  | _=>exact absurd (show false=true from hs) Bool.false_ne_true
 | _=>cases y<;>exact absurd (show false=true from hs) Bool.false_ne_true
theorem Qkh:OpR X (compareOp .NotEq) rNe:=by
 intro pins s σ H x y v u Q I rx ry h;obtain⟨hs,q⟩:=h
 cases x with
 | non =>
  cases rx
  cases y with
  | non=>cases ry;exact PySem.EqNone.ne_none_none (Qp I q (by simp))
  | bl j=>cases ry;exact PySem.EqNone.ne_none_bool (Qp I q (by simp))
  | int j=>obtain⟨t',rfl⟩:=ry;exact PySem.EqNone.ne_none_int (Qp I q (by simp))
  | str j=>obtain⟨t',rfl⟩:=ry;exact PySem.EqNone.ne_none_str (Qp I q (by simp))
  | _=>exact absurd (show false=true from hs) Bool.false_ne_true
 | bl i =>
  cases rx
  cases y with
  | non=>cases ry;exact PySem.EqNone.ne_bool_none (Qp I q (by simp))
  | bl j=>cases ry;exact ne_bool (Qp I q (congrArg not Qft))
  | str j=>obtain⟨t',rfl⟩:=ry;exact PySem.EqMixed.ne_bool_str (Qp I q (by simp))
  | _=>exact absurd (show false=true from hs) Bool.false_ne_true
 | int i =>
  obtain⟨t,rfl⟩:=rx
  cases y with
  | non=>cases ry;exact PySem.EqNone.ne_int_none (Qp I q (by simp))
  | int j=>obtain⟨t',rfl⟩:=ry;exact ne_int (Qp I q (congrArg not QcG))
  | str j=>obtain⟨t',rfl⟩:=ry;exact PySem.EqMixed.ne_int_str (Qp I q (by simp))
  | _=>exact absurd (show false=true from hs) Bool.false_ne_true
 | str i =>
  obtain⟨t,rfl⟩:=rx
  cases y with
  | non=>cases ry;exact PySem.EqNone.ne_str_none (Qp I q (by simp))
  | bl j=>cases ry;exact PySem.EqMixed.ne_str_bool (Qp I q (by simp))
  | int j=>obtain⟨t',rfl⟩:=ry;exact PySem.EqMixed.ne_str_int (Qp I q (by simp))
  | str j=>obtain⟨t',rfl⟩:=ry;exact ne_str (Qp I q (congrArg not QcF))
  | _=>exact absurd (show false=true from hs) Bool.false_ne_true
 | byt i =>
  obtain⟨t,rfl⟩:=rx
  cases y with
  | byt j=>obtain⟨t',rfl⟩:=ry;exact PySem.W.ne_bytes (Qp I q (congrArg not QcH))
  | _=>exact absurd (show false=true from hs) Bool.false_ne_true
 | _=>cases y<;>exact absurd (show false=true from hs) Bool.false_ne_true
theorem Qki:OpR X (compareOp .Lt) (rI0 fun i j=>.bl (decide (i<j))):=Qjr fun _ _ _ _ _ _ _ q=>lt_int q
theorem Qkj:OpR X (compareOp .LtE) (rI0 fun i j=>.bl (decide (i<=j))):=Qjr fun _ _ _ _ _ _ _ q=>le_int q
theorem Qkk:OpR X (compareOp .Gt) (rI0 fun i j=>.bl (decide (j<i))):=Qjr fun _ _ _ _ _ _ _ q=>gt_int q
theorem Qkl:OpR X (compareOp .GtE) (rI0 fun i j=>.bl (decide (j<=i))):=Qjr fun _ _ _ _ _ _ _ q=>ge_int q
theorem Qb3:OpR X (compareOp .In) (fun x y H Q=>∃i j,x=.str i/\y=.str j/\Q (.bl (!(Builtin.Str.occurrences j i 0 j.length 1).isEmpty)) H):=by
 intro pins s σ H x y v u Q I rx ry h;obtain⟨i,j,rfl,rfl,q⟩:=h;obtain⟨t,rfl⟩:=rx;obtain⟨t',rfl⟩:=ry;exact in_str (Qp I q rfl)
theorem Qiz:OpR X (compareOp .Is) (fun x y H Q=>y=.non/\Q (.bl (decide (x=.non))) H):=by
 intro pins s σ H x y v u Q I rx ry h;obtain⟨rfl,q⟩:=h;cases ry;refine is_none_gen (Qp I q ?_)
 cases x<;>first
  | (cases rx;rfl)
  | (obtain⟨t,rfl⟩:=rx;rfl)
theorem Qgj:OpR X (compareOp .IsNot) (fun x y H Q=>y=.non/\Q (.bl (!decide (x=.non))) H):=by
 intro pins s σ H x y v u Q I rx ry h;obtain⟨rfl,q⟩:=h;cases ry;refine isnot_none_gen (Qp I q ?_)
 cases x<;>first
  | (cases rx;rfl)
  | (obtain⟨t,rfl⟩:=rx;rfl)
theorem Js:OpR X (compareOp .NotIn) (fun x y H Q=>∃i j,x=.str i/\y=.str j/\Q (.bl (!(!(Builtin.Str.occurrences j i 0 j.length 1).isEmpty))) H):=by
 intro pins s σ H x y v u Q I rx ry h;obtain⟨i,j,rfl,rfl,q⟩:=h;obtain⟨t,rfl⟩:=rx;obtain⟨t',rfl⟩:=ry;exact notIn_str (Qp I q rfl)
theorem OpR.or{f:Value->Value->Sem Value}{r r':R2}(h:OpR X f r)(h':OpR X f r'):OpR X f (fun x y H Q=>r x y H Q\/r' x y H Q):=by
 intro pins s σ H x y v u Q I rx ry q
 rcases q with q | q
 ·exact h pins s σ H x y v u Q I rx ry q
 ·exact h' pins s σ H x y v u Q I rx ry q
theorem Qgg{op:CmpOp}{r:R2}(ho:OpR X (compareOp op) r)(ha:PE X a ta)(hb:PE X b tb)(hm:behindInMarks op b=false):PE X (.Compare a [op] [b] pos) (tOp r ta tb):=by
 intro pins s σ H Q I h;exact wpAny_Compare1 (Qlq ha hb I h fun v u s2 x y H2 I2 rx ry q=>ho pins s2 σ H2 x y v u Q I2 rx ry q) hm
noncomputable def QjI(t:TE):TT:=fun σ H Q=>t σ H fun x H'=>∃k,x=.bl k/\Q k H'
theorem Qf0{op:CmpOp}{r:R2}(ho:OpR X (compareOp op) r)(ha:PE X a ta)(hb:PE X b tb)(hm:behindInMarks op b=false):PT X (.Compare a [op] [b] pos) (QjI (tOp r ta tb)):=by
 intro pins s σ H Q I h
 refine wpAny_isTrue_Compare1 (thn (ha pins s σ H _ I h) fun v s1 ⟨x,H1,I1,r1,q1⟩=>thn (hb pins s1 σ H1 _ I1 q1) fun u s2 ⟨y,H2,I2,r2,q2⟩=>
  thn (ho pins s2 σ H2 x y v u _ I2 r1 r2 q2) fun c s3 ⟨z,H3,I3,r3,k,e,q3⟩=>?_) hm
 subst e;cases r3;exact wpAny_truthy_bool ⟨H3,I3,q3⟩
noncomputable def Qji(K:PySem.W.Frag)(x:V)(H:Hp)(k:Bool):Prop :=
 match x with
 | .non=>k=false
 | .bl b=>k=b
 | .int i=>k=(i != 0)
 | .str y=>y.length<=sizeLine/\k=((y.length:Int) != 0)
 | .byt y=>y.size<=sizeLine/\k=((y.size:Int) != 0)
 | .ref p=>(∃xs,SqL K H p xs/\k=!xs.isEmpty)\/(∃xs,SqT K H p xs/\k=!xs.isEmpty)\/∃kvs,H p=some (.dK kvs)/\k=!kvs.isEmpty
 | _=>False
theorem Qbj{κ:Type}{kvs:List (κ×V)}{vs:List (κ×Value)}(r:KV kvs vs):(!vs.isEmpty)=!kvs.isEmpty:=by
 cases r<;>rfl
theorem YN{xs:List V}{its:List Value}(r:Vals xs its):(!its.toArray.isEmpty)=!xs.isEmpty:=by
 cases r<;>simp
theorem Yl:(sizeLine:Nat) < 2 ^ 63:=by rw [sizeLine_eq];decide
theorem Qe7:Qot X (fun x H Q=>∃k,Qji X.K x H k/\Q k H):=by
 intro pins s σ H x v Q I rx h;obtain⟨k,e,q⟩:=h;have hl:=Yl;have hs:sizeLine=16777216:=sizeLine_eq
 cases x with
 | non =>
  cases rx;have e':k=false:=e;subst e';exact truthy_none ⟨H,I,q⟩
 | bl b =>
  cases rx;have e':k=b:=e;subst e';exact wpAny_truthy_bool ⟨H,I,q⟩
 | int i =>
  obtain⟨t,rfl⟩:=rx;have e':k=(i != 0):=e;subst e';exact PySem.P.truthy_int ⟨H,I,q⟩
 | str y =>
  obtain⟨t,rfl⟩:=rx;obtain⟨hy,e'⟩:y.length<=sizeLine/\k=((y.length:Int) != 0):=e;subst e'
  exact PySem.P.truthy_str (by omega) ⟨H,I.tok _,q⟩
 | byt y =>
  obtain⟨t,rfl⟩:=rx;obtain⟨hy,e'⟩:y.size<=sizeLine/\k=((y.size:Int) != 0):=e;subst e'
  exact PySem.W.truthy_bytes (by omega) ⟨H,I.tok _,q⟩
 | ref p =>
  cases rx;have e':(∃xs,SqL X.K H p xs/\k=!xs.isEmpty)\/(∃xs,SqT X.K H p xs/\k=!xs.isEmpty)\/∃kvs,H p=some (.dK kvs)/\k=!kvs.isEmpty:=e
  rcases e' with⟨xs,hx,e'⟩ | ⟨xs,hx,e'⟩ | ⟨kvs,hx,e'⟩
  ·subst e';obtain⟨its,r,pl,hz⟩:=I.list hx;have hlen:=r.length
   exact wpAny_truthy_list pl.isList (by simp only [List.size_toArray];omega) ⟨H,I.tok _,by rw [YN r];exact q⟩
  ·subst e';obtain⟨its,r,pl,hz⟩:=I.tuple hx;have hlen:=r.length
   exact truthy_tuple pl (by simp only [List.size_toArray];omega) ⟨H,I.tok _,by rw [YN r];exact q⟩
  ·subst e';obtain⟨hz,hS,vs,r,m⟩:kvs.length<=sizeLine/\(p==sysModules)=false/\∃vs,KV kvs vs/\s.heap.DictOf (Qs X.prog X.w) p vs:=I.hok p _ hx;have hlen:kvs.length=vs.length:=Paired.length r
   exact wpAny_truthy_dict hS m (by omega) ⟨H,I.tok _,by rw [Qbj r];exact q⟩
 | _=>exact(show False from e).elim
theorem Qd9(ha:PE X a ta)(he:∀whole,isTrue a X.env whole=(do let v <-whole;standAt a.pos;holding [v] (truthy v))):
  PT X a (fun σ H Q=>ta σ H fun x H'=>∃k,Qji X.K x H' k/\Q k H'):=by
 intro pins s σ H Q I h;exact isTrue_plain (thn (ha pins s σ H _ I h) fun v s1 ⟨x,H1,I1,r1,q1⟩=>Qe7 pins s1 σ H1 x v Q I1 r1 q1) (he _)
theorem Qbb:OpR X (binaryOp .Add) (fun x y H Q=>∃i j,x=.str i/\y=.str j/\i.length+j.length<=sizeLine/\Q (.str (i++j)) H):=by
 intro pins s σ H x y v u Q I rx ry h;obtain⟨i,j,rfl,rfl,hz,q⟩:=h;obtain⟨t,rfl⟩:=rx;obtain⟨t',rfl⟩:=ry;exact add_str (fun t' tk=>⟨.str (i++j),H,I.tok _,⟨_,rfl⟩,q⟩) hz
theorem Jl{x:V}{us:List Value}(r:Vals [x] us):∃u,us=[u]/\RelV x u:=by
 cases r with
 | cons r1 r2=>cases r2;exact⟨_,rfl,r1⟩
theorem QfB{x y:V}{us:List Value}(r:Vals [x,y] us):∃u w',us=[u,w']/\RelV x u/\RelV y w':=by
 cases r with
 | cons r1 r2 =>
  cases r2 with
  | cons r3 r4=>cases r4;exact⟨_,_,rfl,r1,r3⟩
theorem QcS : CallR X (.type "int") (fun xs H Q => (∃ i, xs = [.int i] /\ Q (.int i) H) \/ ∃ k, xs = [.bl k] /\ Q (.int (if k then 1 else 0)) H) := by
 intro pins s σ H xs us Q I r h
 rcases h with⟨i,rfl,q⟩ | ⟨k,rfl,q⟩
 ·obtain⟨u,rfl,t,rfl⟩:=Jl r;exact call_int_int ⟨.int i,H,I,⟨_,rfl⟩,q⟩
 ·obtain⟨u,rfl,r1⟩:=Jl r;cases r1;exact call_int_bool ⟨.int (if k then 1 else 0),H,I.tok _,⟨_,rfl⟩,q⟩
theorem JM : CallR X (.type "str") (fun xs H Q => ∃ i, xs = [.int i] /\ i.natAbs.log2 < 1920 /\ Q (.str (toString i)) H) := by
 intro pins s σ H xs us Q I r h;obtain⟨i,rfl,hz,q⟩:=h;obtain⟨u,rfl,t,rfl⟩:=Jl r;exact PySem.P.str_of_int hz ⟨.str _,H,I.tok _,⟨_,rfl⟩,q⟩
end
end L2
namespace L2
open PySem PySem.Spec PyProof.Rows
structure ObjM(h:Heap)(x dx C:Addr)(mA:Str->Option Value):Prop where
 obj:h.get? x=some (PySem.W.instObj C dx)
 ns:h.Ns1 dx mA
 ne:dx≠x
theorem Qcc{h:Heap}{dx:Addr}{mA:Str->Option Value}(n:h.Ns1 dx mA):∃od,h.get? dx=some od/\∀name,PySem.W.lookIn name od=some (mA name):=by
 obtain⟨o,es,ep,ho,hd,hk,_,hm⟩:=n;refine⟨o,ho,fun name=>?_⟩;have e:=hm name;unfold nsFind findBy at e;rw [<-Array.find?_toList]at e;unfold PySem.W.lookIn;rw [hd];dsimp only;split
 ·rename_i y q;rw [q]at e;exact congrArg some e
 ·rename_i q;rw [q]at e
  have a:es.toList.any (·.refKey)=false:=by
   rw [List.any_eq_false];intro y hy;obtain⟨z,t,hkey⟩:=hk y (Array.mem_toList_iff.mp hy);simp [DictEntry.refKey,hkey]
  have a':¬es.toList.any (·.refKey)=true:=by rw [a];exact Bool.false_ne_true
  rw [if_neg a'];exact congrArg some e
theorem ObjM.look{h:Heap}{x dx C:Addr}{mA:Str->Option Value}(I:ObjM h x dx C mA):∃od,PySem.W.InstAt h x (PySem.W.instObj C dx) C (some od)/\∀name,PySem.W.lookIn name od=some (mA name):=
 let ⟨od,ho,hl⟩:=Qcc I.ns
 ⟨od,⟨I.obj,rfl,rfl,ho⟩,hl⟩
section
variable {prog:Program}{w:World}{A:Around}{E:Value->Shared->Prop}{s:Shared}{K:PySem.W.Frag}{x dx C f:Addr}{mA:Str->Option Value}{name:Str}{v:Value}
theorem QgT{expr:Bool}{Q:Value->Shared->Prop}(X:K.In s.heap)(I:ObjM s.heap x dx C mA)(hg:PySem.W.plainGet K C name=true)(hh:PySem.W.hasDictIn K C=true)
  (ha:PySem.W.findIn K (.ref C) name=some none) (hv:mA name=some v) (hv':PySem.W.handedIn v=true) (h:Q v { s with toks:=s.toks+1 }):
  wpAny (model prog w) A (getAttr (.ref x) name expr) Q E s:=by
 obtain⟨od,J,hl⟩:=I.look
 exact PySem.W.get_value X J (PySem.W.plainGet_of hg).1 (PySem.W.findObj_own hh ha rfl (by rw [hl,hv])) hv' h
theorem QeG{pl:Sem Bool}{Q:Value×List Value->Shared->Prop}(X:K.In s.heap)(I:ObjM s.heap x dx C mA)(hg:PySem.W.plainGet K C name=true)
  (hf:PySem.W.findIn K (.ref C) name=some (some (.ref f))) (ht:PySem.W.isFn K (.ref f)=true) (hv:mA name=none) (h:Q (.ref f,[.ref x]) s):
  wpAny (model prog w) A (getMethod (.ref x) name pl) Q E s:=by
 obtain⟨od,J,hl⟩:=I.look
 exact PySem.W.method_fn X J (PySem.W.plainGet_of hg).1 (PySem.W.plainGet_of hg).2 hf (beq_iff_eq.mp ht) (by show(PySem.W.lookIn name od).map (·.isSome)=some false;rw [hl,hv];rfl) h
theorem QfO{ns:List Str}{Q:Unit->Shared->Prop}(X:K.In s.heap)(I:ObjM s.heap x dx C mA)
  (hs:PySem.W.findIn K (.ref C) "__setattr__"=some (some (.builtin "object.__setattr__"))) (hp:PySem.W.plainOver K C=true) (ht:PySem.W.takerIn K C name=some none) (hh:PySem.W.hasDictIn K C=true)
  (hw:PySem.Within mA ns) (hsz:ns.length<=sizeLine)
  (h:∀h',ObjM h' x dx C (fun y=>if y=name then some v else mA y)->Heap.SameBut dx s.heap h'->Q () { s with heap:=h',toks:=s.toks+2 }):
  wpAny (model prog w) A (setAttr (.ref x) name v) Q E s:=by
 obtain⟨od,J,hl⟩:=I.look;refine PySem.W.set_plain X J hs (PySem.W.osa_open (s:={ s with toks:=s.toks+1 }) (r:=none) X J hp ht fun b=>?_);obtain⟨cd,hc,hd'⟩:=PySem.W.any_some hh;have hx:s.heap.get? x=some ⟨.ref C,some dx,.plain,#[]⟩:=I.obj;refine wpAny_bind (wpAny_pure (wpAny_bind (wpAny_bind (wpAny_loadPart hx (wpAny_bind (PySem.W.Looks.here (s:={ s with toks:=s.toks+1 }) (PySem.W.looks_clsIn X hc) ?_))))));rw [hd'];refine wpAny_pure (a:=some dx) (wpAny_bind (wpAny_pure (wpAny_bind ?_)));refine wpAny_nsSet1 (s:={ s with toks:=s.toks+1 }) I.ns fun h' hn2 hs2=>?_;obtain⟨oD,esD,epD,hoD,hdD,hcD⟩:=hn2.count (PySem.Within.cons name v hw)
 refine wpAny_bind (wpAny_lookBehind hoD (by rw [hdD];exact pastItsLine_dict (Nat.le_trans hcD (by rw [List.length_cons];omega))) ?_)
 exact wpAny_pure (h _ ⟨(hs2.2 _ (Ne.symm I.ne)).trans I.obj,hn2,I.ne⟩ hs2)
theorem Qes{R:Result->Shared->Prop}{vs:List Value}{kw:List (Str×Value)}(X:K.In s.heap)(hm:PySem.W.makesIn K C=true)
  (hi:PySem.W.findIn K (.ref C) "__init__"=some (some (.ref f))) (hf:PySem.W.typeIn K (.ref f)=some (.type "function"))
  (h:codeAny (model prog w) (A.under (.builtin "type.__call__" ⟨.ref C::vs,kw⟩)) (.call (.ref f) ⟨.ref (s.heap.objs.size+1)::vs,kw⟩) (PySem.W.InitBack (s.heap.objs.size+1) R)
   { s with heap:=(s.heap.push PySem.W.emptyDict).push (PySem.W.instObj C s.heap.objs.size) }):
  codeAny (model prog w) A (.call (.ref C) ⟨vs,kw⟩) R s:=by
 obtain⟨hh,g,d,t,os⟩:=s;exact PySem.W.make_core (PySem.W.makes_of X hm) (PySem.W.looks_findIn X hi) (fun self=>PySem.W.bind_fn X self hf) (.inl rfl) h
theorem Qca{R:Result->Shared->Prop}(X:K.In s.heap)(hm:PySem.W.makesIn K C=true)
  (hi:PySem.W.findIn K (.ref C) "__init__"=some (some (.builtin "object.__init__")))
  (hb:∀self,PySem.W.Looks (model prog w) s.heap (bindSpecial (.builtin "object.__init__") self) (.builtin "object.__init__",[self]))
  (h:codeAny (model prog w) (A.under (.builtin "type.__call__" ⟨[.ref C],[]⟩)) (.call (.builtin "object.__init__") ⟨[.ref (s.heap.objs.size+1)],[]⟩) (PySem.W.InitBack (s.heap.objs.size+1) R)
   { s with heap:=(s.heap.push PySem.W.emptyDict).push (PySem.W.instObj C s.heap.objs.size) }):
  codeAny (model prog w) A (.call (.ref C) ⟨[],[]⟩) R s:=by
 obtain⟨hh,g,d,t,os⟩:=s;exact PySem.W.make_core (PySem.W.makes_of X hm) (PySem.W.looks_findIn X hi) hb (.inr ⟨rfl,rfl⟩) h
end
noncomputable def Y1(f:Str)(v:V):List (Str×V)->List (Str×V)
 | []=>[(f,v)]
 | (g,x)::r=>if g=f then(g,v)::r else(g,x)::Y1 f v r
theorem Yk(f g:Str)(v:V):∀fs:List (Str×V),(Y1 f v fs).lookup g=if g=f then some v else fs.lookup g
 | []=>by
  show List.lookup g [(f,v)]=_;by_cases h:g=f
  ·have hb:(g==f)=true:=beq_iff_eq.mpr h;simp only [List.lookup,hb,if_pos h]
  ·have hb:(g==f)=false:=beq_eq_false_iff_ne.mpr h;simp only [List.lookup,hb,if_neg h]
 | (k,x)::r=>by
  have ih:=Yk f g v r;rw [show Y1 f v ((k,x)::r)=(if k=f then(k,v)::r else(k,x)::Y1 f v r)from rfl];by_cases hk:k=f
  ·rw [if_pos hk];by_cases h:g=k
   ·have hb:(g==k)=true:=beq_iff_eq.mpr h;simp only [List.lookup,hb,if_pos (h.trans hk)]
   ·have hb:(g==k)=false:=beq_eq_false_iff_ne.mpr h;simp only [List.lookup,hb,if_neg (fun e:g=f=>h (e.trans hk.symm))]
  ·rw [if_neg hk];by_cases h:g=k
   ·have hb:(g==k)=true:=beq_iff_eq.mpr h;simp only [List.lookup,hb,if_neg (fun e:g=f=>hk (h.symm.trans e))]
   ·have hb:(g==k)=false:=beq_eq_false_iff_ne.mpr h;simp only [List.lookup,hb];exact ih
theorem Yn(f:Str)(v:V):∀fs:List (Str×V),f∈(Y1 f v fs).map (·.1)/\∀g,g∈fs.map (·.1)->g∈(Y1 f v fs).map (·.1)
 | []=>⟨by simp [Y1],fun g h=>by simp at h⟩
 | (k,x)::r=>by
  obtain⟨i1,i2⟩:=Yn f v r;rw [show Y1 f v ((k,x)::r)=(if k=f then(k,v)::r else(k,x)::Y1 f v r)from rfl];by_cases hk:k=f
  ·rw [if_pos hk];subst hk
   exact⟨by simp,fun g h=>by simpa using h⟩
  ·rw [if_neg hk];refine⟨?_,fun g h=>?_⟩
   ·rw [List.map_cons];exact List.mem_cons_of_mem _ i1
   ·rw [List.map_cons]at h ⊢
    rcases List.mem_cons.mp h with e | e
    ·exact List.mem_cons.mpr (.inl e)
    ·exact List.mem_cons_of_mem _ (i2 g e)
theorem Ym(f:Str)(v:V):∀fs:List (Str×V),(Y1 f v fs).length<=fs.length+1
 | []=>by simp [Y1]
 | (k,x)::r=>by
  have ih:=Ym f v r;rw [show Y1 f v ((k,x)::r)=(if k=f then(k,v)::r else(k,x)::Y1 f v r)from rfl];by_cases hk:k=f
  ·rw [if_pos hk,List.length_cons,List.length_cons];omega
  ·rw [if_neg hk,List.length_cons,List.length_cons];omega
theorem RelO.some_of{v:V}{o:Option Value}(r:RelO (some v) o):∃u,o=some u/\RelV v u:=by
 cases o with
 | none=>exact(show False from r).elim
 | some u=>exact⟨u,rfl,r⟩
theorem RelO.none_of{o:Option Value}(r:RelO none o):o=none:=by
 cases o with
 | none=>rfl
 | some u=>exact(show False from r).elim
theorem Qcq{v:V}{u:Value}(r:RelV v u):PySem.W.handedIn u=true:=by
 cases v with
 | non=>cases(show u=Value.none from r);rfl
 | bl b=>cases(show u=Value.bool b from r);rfl
 | int i=>obtain⟨t,e⟩:=(show ∃t,u=Value.int i t from r);cases e;rfl
 | str x=>obtain⟨t,e⟩:=(show ∃t,u=Value.str x t from r);cases e;rfl
 | byt b=>obtain⟨t,e⟩:=(show ∃t,u=Value.bytes b t from r);cases e;rfl
 | flt b=>obtain⟨t,e⟩:=(show ∃t,u=Value.float b t from r);cases e;rfl
 | ref a=>cases(show u=Value.ref a from r);rfl
 | ty n=>cases(show u=Value.type n from r);rfl
section
variable {P:Program}{w:World}{H H':Hp}{h h':Heap}{a C dx:Addr}{fs fs':List (Str×V)}
theorem Y8(hok:HOk P w H h)(e:H a=some (.ins C dx fs)):∃mA,ObjM h a dx C mA/\(∀f,RelO (fs.lookup f) (mA f))/\PySem.Within mA (fs.map (·.1))/\fs.length<=1000/\H dx=some (.own a):=by
 obtain⟨d,z,ne,ob,mA,n,r,q⟩:=(show ObjOk P w H h a (.ins C dx fs)from hok a _ e);exact⟨mA,⟨ob,n,ne⟩,r,q,z,d⟩
end
structure Cls(K:PySem.W.Frag)(C:Addr):Prop where
 pg:PySem.W.plainGet K C Str.empty=true
 hd:PySem.W.hasDictIn K C=true
 po:PySem.W.plainOver K C=true
 sa:PySem.W.findIn K (.ref C) "__setattr__"=some (some (.builtin "object.__setattr__"))
theorem Cls.get{K:PySem.W.Frag}{C:Addr}(c:Cls K C)(f:Str):PySem.W.plainGet K C f=true:=c.pg
noncomputable def NoAttr(K:PySem.W.Frag)(C:Addr)(f:Str):Prop:=PySem.W.findIn K (.ref C) f=some none
theorem NoAttr.taker{K:PySem.W.Frag}{C:Addr}{f:Str}(n:NoAttr K C f):PySem.W.takerIn K C f=some none:=by
 unfold PySem.W.takerIn;rw [show PySem.W.findIn K (.ref C) f=some none from n];rfl
structure Meth(K:PySem.W.Frag)(C:Addr)(m:Str)(f:Addr):Prop where
 at_:PySem.W.findIn K (.ref C) m=some (some (.ref f))
 fn:PySem.W.isFn K (.ref f)=true
 kp:PySem.W.keepIn K (.ref f)=true
section
variable {X:Cx}{pins:List (Addr×Obj)}{σ:St}{H:Hp}{s:Shared}{a C dx:Addr}{fs:List (Str×V)}{f:Str}{v:V}{A:Around}{E:Value->Shared->Prop}
theorem Qbl{b:Bool}{Q:Value->Shared->Prop}(I:Inv X pins σ H s)(e:H a=some (.ins C dx fs))(c:Cls X.K C)(n:NoAttr X.K C f)(l:fs.lookup f=some v)
  (h:∀u s',Inv X pins σ H s'->RelV v u->Q u s'):wpAny (model X.prog X.w) A (getAttr (.ref a) f b) Q E s:=by
 obtain⟨mA,O,r,_,_,_⟩:=Y8 I.hok e
 obtain⟨u,hu,ru⟩:=RelO.some_of (v:=v) (o:=mA f) (by rw [<-l];exact r f)
 exact QgT I.kIn O (c.get f) c.hd n hu (Qcq ru) (h u _ (I.tok _) ru)
theorem Qbk{m:Str}{g:Addr}{pl:Sem Bool}{Q:Value×List Value->Shared->Prop}(I:Inv X pins σ H s)(e:H a=some (.ins C dx fs))(c:Cls X.K C)(k:Meth X.K C m g)(l:fs.lookup m=none)
  (h:Q (.ref g,[.ref a]) s):wpAny (model X.prog X.w) A (getMethod (.ref a) m pl) Q E s:=by
 obtain⟨mA,O,r,_,_,_⟩:=Y8 I.hok e
 have hn:mA m=none:=RelO.none_of (by rw [<-l];exact r m)
 exact QeG I.kIn O (c.get m) k.at_ k.fn hn h
theorem Qa6{y:V}{u:Value}{Q:Unit->Shared->Prop}(I:Inv X pins σ H s)(e:H a=some (.ins C dx fs))(c:Cls X.K C)(n:NoAttr X.K C f)(hl:fs.length<1000)(ry:RelV y u)
  (h:∀s',Inv X pins σ (upd H a (.ins C dx (Y1 f y fs))) s'->Q () s'):wpAny (model X.prog X.w) A (setAttr (.ref a) f u) Q E s:=by
 obtain⟨mA,O,r,wi,_,ho⟩:=Y8 I.hok e
 have hz:(fs.map (·.1)).length<=sizeLine:=by rw [List.length_map,sizeLine_eq];omega
 refine QfO I.kIn O c.sa c.po n.taker c.hd wi hz fun h' O' sb=>h _ ?_;have hd:∃o,h'.get? dx=some o:=let ⟨o,_,_,e',_⟩:=O'.ns;⟨o,e'⟩
 refine I.write (x:=a) (e:=dx) (by rw [e];exact True.intro) (.inr ho) (fun b q hb z=>(sb.2 b hb).trans z) hd ?_
 refine⟨by rw [Qe O.ne];exact ho,?_,O.ne,O'.obj,_,O'.ns,fun g=>?_,fun g hg=>?_⟩
 ·have:=Ym f y fs;omega
 ·show RelO ((Y1 f y fs).lookup g) (if g=f then some u else mA g);rw [Yk];by_cases q:g=f
  ·rw [if_pos q,if_pos q];exact ry
  ·rw [if_neg q,if_neg q];exact r g
 ·by_cases q:g=f
  ·rw [q];exact(Yn f y fs).1
  ·refine(Yn f y fs).2 g (wi g fun z=>hg ?_);show(if g=f then some u else mA g)=none;rw [if_neg q];exact z
theorem Inv.made(I:Inv X pins σ H s):Inv X pins σ (upd (upd H s.heap.objs.size (.own (s.heap.objs.size+1))) (s.heap.objs.size+1) (.ins C s.heap.objs.size []))
  { s with heap:=(s.heap.push PySem.W.emptyDict).push (PySem.W.instObj C s.heap.objs.size) }:=by
 have e1:(s.heap.push PySem.W.emptyDict).get? s.heap.objs.size=some PySem.W.emptyDict:=Heap.get?_push_size s.heap rfl
 have e2:((s.heap.push PySem.W.emptyDict).push (PySem.W.instObj C s.heap.objs.size)).get? (s.heap.objs.size+1)=some (PySem.W.instObj C s.heap.objs.size):=by
  have:=Heap.get?_push_size (s.heap.push PySem.W.emptyDict) (o:=PySem.W.instObj C s.heap.objs.size) rfl;rwa [Heap.size_push]at this
 have e3:(s.heap.push PySem.W.emptyDict).Ns s.heap.objs.size (fun _=>none):=⟨PySem.W.emptyDict,#[],_,e1,rfl,(fun e he=>absurd he (by simp)),fun _=>rfl⟩
 have I1:=I.laid (a:=s.heap.objs.size) (o:=.own (s.heap.objs.size+1)) (h':=s.heap.push PySem.W.emptyDict) (t':=s.toks) (fun b u q=>Heap.get?_push_of_some _ q) (Nat.le_refl _) ⟨_,e1⟩;refine I1.laid (a:=s.heap.objs.size+1) (o:=.ins C s.heap.objs.size []) (t':=s.toks) (fun b u q=>Heap.get?_push_of_some _ q) (Nat.le_of_eq (Heap.size_push _ _)) ?_;have ne:s.heap.objs.size≠s.heap.objs.size+1:=Nat.ne_of_lt (Nat.lt_succ_self _)
 refine⟨by rw [Qe ne,Qg],Nat.zero_le _,ne,e2,fun _=>none,(Heap.Ns1.of_empty e3).at fun o q=>Heap.get?_push_of_some _ q,fun _=>True.intro,fun y hy=>absurd rfl hy⟩
theorem Qhd{prog:Program}{w:World}{env:Env}{e:Expr}{f:Str}{pos:Pos}{s:Shared}{Q:Value->Shared->Prop}(hb:attributeBase e f env (eval e env)=eval e env)
  (h:wpAny (model prog w) A (eval e env) (fun o s₁=>wpAny (model prog w) A (getAttr o f true) Q E s₁) E s):wpAny (model prog w) A (eval (.Attribute e f pos) env) Q E s :=
 Attribute_any_ h (by rw [arm_eval_Attribute,hb])
end
noncomputable def Qmk(K:PySem.W.Frag)(ta:TE)(f:Str):TE:=fun σ H Q=>ta σ H fun x H1=>∃a C dx fs v,x=.ref a/\H1 a=some (.ins C dx fs)/\Cls K C/\NoAttr K C f/\fs.lookup f=some v/\Q v H1
noncomputable def Qm7(K:PySem.W.Frag)(ta tv:TE)(f:Str):TS:=fun D σ H=>tv σ H fun y H1=>ta σ H1 fun x H2=>∃a C dx fs,x=.ref a/\H2 a=some (.ins C dx fs)/\Cls K C/\NoAttr K C f/\fs.length<1000 /\
 D.nx σ (upd H2 a (.ins C dx (Y1 f y fs)))
section
variable {X:Cx}{o e value:Expr}{f:Str}{pos pos' tpos:Pos}{ta tv:TE}
theorem Qio(he:PE X e ta)(hb:attributeBase e f X.env (eval e X.env)=eval e X.env):PE X (.Attribute e f pos) (Qmk X.K ta f):=by
 intro pins s σ H Q I h;refine Qhd hb (thn (he pins s σ H _ I h) fun u s1 ⟨x,H1,I1,rx,a,C,dx,fs,v,ex,ea,c,n,l,q⟩=>?_);subst ex;obtain rfl:u=Value.ref a:=rx;exact Qbl I1 ea c n l fun u' s2 I2 ru=>⟨v,H1,I2,ru,q⟩
theorem Qib(ha:PE X o ta)(hv:PE X value tv)(hs:swapsWith value (some (.Attribute o f pos')) pos.line X.env=pure false):PS X (.Assign [.Attribute o f pos'] value pos) (Qm7 X.K ta tv f):=by
 intro pins s σ H D I h;refine plainObj_wpAny_Assign_Attribute (thn (hv pins s σ H _ I h) fun u s1 ⟨y,H1,I1,ry,q⟩=>thn (ha pins s1 σ H1 _ I1 q) fun ov s2 ⟨x,H2,I2,rx,a,C,dx,fs,ex,ea,c,n,l,q2⟩=>?_) hs;subst ex;obtain rfl:ov=Value.ref a:=rx;exact Qa6 I2 ea c n l ry fun s3 I3=>⟨σ,_,I3,q2⟩
end
section
variable {X:Cx}{pins:List (Addr×Obj)}{σ:St}{H:Hp}{s:Shared}{A:Around}{E:Value->Shared->Prop}{Q:Value->Shared->Prop}{c:Value}{b:Bool}
inductive TyOf(K:PySem.W.Frag)(H:Hp):V->Value->Prop where
 | non:TyOf K H .non (.type "NoneType")
 | bl (x:Bool):TyOf K H (.bl x) (.type "bool")
 | int (i:Int):TyOf K H (.int i) (.type "int")
 | str (x:Str):TyOf K H (.str x) (.type "str")
 | flt (x:UInt64):TyOf K H (.flt x) (.type "float")
 | lst {a:Addr} {xs:List V} (e:H a=some (.lst xs)):TyOf K H (.ref a) (.type "list")
 | frz {a:Addr} {o:Obj} {xs:List V} (e:H a=some (.frz o (.lst xs))):TyOf K H (.ref a) (.type "list")
 | tup {a:Addr} {xs:List V} (e:H a=some (.tup xs)):TyOf K H (.ref a) (.type "tuple")
 | dK {a:Addr} {kvs:List (Key×V)} (e:H a=some (.dK kvs)):TyOf K H (.ref a) (.type "dict")
 | dT {a:Addr} {kvs:List (List Key×V)} (e:H a=some (.dT kvs)):TyOf K H (.ref a) (.type "dict")
 | ins {a C dx:Addr} {fs:List (Str×V)} (e:H a=some (.ins C dx fs)) (cl:Cls K C) (ha:PySem.W.findIn K (.ref C) "__class__"=some (some (.builtin "object.__class__")))
   (hn:PySem.W.specialIn K (.builtin "object.__class__") "__get__"=some (some (.builtin "getset_descriptor.__get__"))) (htk:PySem.W.takesIn K (.builtin "object.__class__")=some true)
   (hm:PySem.W.mroIn K C (.type "object")=some true):TyOf K H (.ref a) (.ref C)
theorem Qci{x:V}{u t:Value}(I:Inv X pins σ H s)(rx:RelV x u)(ty:TyOf X.K H x t)(e:PySem.W.kitOne X.K t c=some b)(h:∀tk,Q (.bool b) { s with toks:=tk }):
  wpAny (model X.prog X.w) A (call (.builtin "isinstance") [u,c]) Q E s:=by
 cases ty with
 | non=>cases(show u=Value.none from rx);exact PySem.W.kia_one PySem.W.kitx_none I.kIn True.intro e (fun z=>nomatch z) h
 | bl y=>cases(show u=Value.bool y from rx);exact PySem.W.kia_one PySem.W.kitx_bool I.kIn True.intro e (fun z=>nomatch z) h
 | int i=>obtain⟨t,q⟩:=(show ∃t,u=Value.int i t from rx);cases q;exact PySem.W.kia_one PySem.W.kitx_int I.kIn True.intro e (fun z=>nomatch z) h
 | str y=>obtain⟨t,q⟩:=(show ∃t,u=Value.str y t from rx);cases q;exact PySem.W.kia_one PySem.W.kitx_str I.kIn True.intro e (fun z=>nomatch z) h
 | flt y=>obtain⟨t,q⟩:=(show ∃t,u=Value.float y t from rx);cases q;exact PySem.W.kia_one PySem.W.kitx_float I.kIn True.intro e (fun z=>nomatch z) h
 | @lst a xs ea =>
  cases(show u=Value.ref a from rx);obtain⟨_,_,n,_,h1⟩:=(show ObjOk X.prog X.w H s.heap a (.lst xs)from I.hok a _ ea);exact PySem.W.kia_one PySem.W.kitx_list I.kIn ⟨_,h1,rfl⟩ e (fun z=>nomatch z) h
 | @frz a ob xs ea =>
  cases(show u=Value.ref a from rx);obtain⟨_,_,_,n,_,h1⟩:=(show ObjOk X.prog X.w H s.heap a (.frz ob (.lst xs))from I.hok a _ ea);exact PySem.W.kia_one PySem.W.kitx_list I.kIn ⟨_,h1,rfl⟩ e (fun z=>nomatch z) h
 | @tup a xs ea =>
  cases(show u=Value.ref a from rx);obtain⟨_,_,_,p⟩:=(show ObjOk X.prog X.w H s.heap a (.tup xs)from I.hok a _ ea);obtain⟨o,h1,h2,_⟩:=p;exact PySem.W.kia_one PySem.W.kitx_tuple I.kIn ⟨o,h1,h2⟩ e (fun z=>nomatch z) h
 | @dK a kvs ea =>
  cases(show u=Value.ref a from rx);obtain⟨_,_,vs,_,p⟩:=(show ObjOk X.prog X.w H s.heap a (.dK kvs)from I.hok a _ ea);obtain⟨o,es,ep,h1,h2,_⟩:=p;exact PySem.W.kia_one PySem.W.kitx_dict I.kIn ⟨o,h1,h2.1⟩ e (fun z=>nomatch z) h
 | @dT a kvs ea =>
  cases(show u=Value.ref a from rx);obtain⟨_,_,xs,_,o,es,ep,h1,h2,_⟩:=(show ObjOk X.prog X.w H s.heap a (.dT kvs)from I.hok a _ ea);exact PySem.W.kia_one PySem.W.kitx_dict I.kIn ⟨o,h1,h2.1⟩ e (fun z=>nomatch z) h
 | @ins a C dx fs ea cl ha hn htk hm =>
  cases(show u=Value.ref a from rx);obtain⟨mA,O,_⟩:=Y8 I.hok ea;obtain⟨od,J,_⟩:=O.look;exact PySem.W.kia_one (PySem.W.kitx_own (cl.get _) cl.hd ha hn htk hm) I.kIn J e (fun z=>nomatch z) h
end
end L2
namespace L2
open PySem PySem.Spec PyProof.Rows
structure Room(k:Nat)(A:Around):Prop where
 hd:A.handled=none
 dp:A.depth+3*k+5<recursionLimit
 un:A.units+16*k+200<cLine
theorem Room.mono{j k:Nat}{A:Around}(r:Room k A)(h:j<=k):Room j A:=⟨r.hd,by have:=r.dp;omega,by have:=r.un;omega⟩
theorem Room.deeper{k:Nat}{A:Around}(r:Room (k+1) A)(env:Env):Room k (A.deeper env):=
 ⟨r.hd,by have:=r.dp;show A.depth+1+3*k+5<_;omega,by have:=r.un;show A.units+3+16*k+200<_;omega⟩
theorem Qbg{A:Around}{C:Addr}{us:List Value}{kw:List (Str×Value)}:(A.under (.builtin "type.__call__" ⟨.ref C::us,kw⟩)).depth=A.depth+1:=by
 first | rfl | simp [Around.under,Code.weight,Code.isCreation,Code.isGuard,Code.isCaller,Code.frames,Code.isFrame,guardIds]
theorem Qbf{A:Around}{C:Addr}{us:List Value}{kw:List (Str×Value)}:(A.under (.builtin "type.__call__" ⟨.ref C::us,kw⟩)).units=A.units+1:=by
 first | rfl | simp [Around.under,Code.cUnits,Code.frames,Code.isFrame]
theorem Room.make{k:Nat}{A:Around}(r:Room (k+1) A)(C:Addr)(us:List Value)(kw:List (Str×Value)):Room k (A.under (.builtin "type.__call__" ⟨.ref C::us,kw⟩)):=
 ⟨r.hd,by have:=r.dp;rw [Qbg];omega,by have:=r.un;rw [Qbf];omega⟩
theorem Room.depth{k:Nat}{A:Around}(r:Room k A):A.depth<recursionLimit:=by have:=r.dp;omega
theorem Room.units{k:Nat}{A:Around}(r:Room k A):A.units+64<cLine:=by have:=r.un;omega
noncomputable def Qjo:TA:=fun _ H Q=>Q [] H
noncomputable def QfJ(ta:TE)(tr:TA):TA:=fun σ H Q=>ta σ H fun x H1=>tr σ H1 fun xs H2=>Q (x::xs) H2
section
variable {X:Cx}{e:Expr}{es:List Expr}{te:TE}{t:TA}{pos:Pos}
theorem Jr:PA X [] Qjo:=fun _ _ _ _ H Q I h=>Calls.spliced_nil ⟨[],H,I,.nil,h⟩
theorem Zr(ha:PE X e te)(hr:PA X es t)(hs:starEach (e::es) X.env=(false,eval e X.env)::starEach es X.env:=by rfl):PA X (e::es) (QfJ te t):=by
 intro pos pins s σ H Q I h;rw [hs];show wpAny _ _ (spliced ((false,eval e X.env)::backTo pos (starEach es X.env))) _ _ s;refine Calls.spliced_cons (thn (ha pins s σ H _ I h) fun u s1 ⟨x,H1,I1,r1,q1⟩=>?_);exact thn (hr pos pins s1 σ H1 _ I1 q1) fun us s2 ⟨xs,H2,I2,r2,q2⟩=>⟨x::xs,H2,I2,.cons r1 r2,q2⟩
noncomputable def Qmc(t:TA):TE:=fun σ H Q=>t σ H fun xs H1=>xs.length<=sizeLine/\∀p,H1 p=none->Q (.ref p) (upd H1 p (.tup xs))
noncomputable def Qmh(t:TA):TE:=fun σ H Q=>t σ H fun xs H1=>xs.length<=sizeLine/\∀p,H1 p=none->Q (.ref p) (upd H1 p (.lst xs))
theorem Qik{x1}(h:PA X es t):PE X (.Tuple es x1 pos) (Qmc t):=by
 intro pins s σ H Q I hq
 refine wpAny_Tuple_spliced (thn (h pos pins s σ H _ I hq) fun us s1 ⟨xs,H1,I1,r,z,q⟩=>⟨by rw [<-r.length];exact z,?_⟩)
 have hf:H1 s1.heap.objs.size=none:=I1.hok.fresh (Nat.le_refl _);refine⟨.ref s1.heap.objs.size,upd H1 s1.heap.objs.size (.tup xs),I1.laid (t':=s1.toks) (fun b u e=>Heap.get?_push_of_some _ e) (Nat.le_refl _) ?_,rfl,q _ hf⟩;exact⟨z,us,r,⟨_,Heap.get?_push_size _ rfl,rfl,_,rfl⟩⟩
theorem Qin(h:PA X es t):PE X (.List es pos) (Qmh t):=by
 intro pins s σ H Q I hq
 refine wpAny_List_spliced (thn (h pos pins s σ H _ I hq) fun us s1 ⟨xs,H1,I1,r,z,q⟩=>⟨by rw [<-r.length];exact z,?_⟩)
 have hf:H1 s1.heap.objs.size=none:=I1.hok.fresh (Nat.le_refl _);refine⟨.ref s1.heap.objs.size,upd H1 s1.heap.objs.size (.lst xs),I1.laid (t':=s1.toks) (fun b u e=>Heap.get?_push_of_some _ e) (Nat.le_refl _) ?_,rfl,q _ hf⟩;exact⟨z,us,0,r,Heap.get?_push_size _ rfl⟩
end
noncomputable abbrev Sp:=List V->Hp->VK->XK->Prop
noncomputable abbrev CXT:=List Env->Hp->Shared->XK->Value->Shared->Prop
structure Env0(P:Program)(w:World)(K:PySem.W.Frag)(mg:Str->Option Value)(base:Heap)(A:Around)(outer:List Env)(s:Shared)(H:Hp):Prop where
 frames:A.frames=some outer
 mod:Mod K mg base
 bs:∀b o,base.get? b=some o->s.heap.get? b=some o/\H b=none
 bsz:base.objs.size<=s.heap.objs.size
 funs:s.heap.FunFrames base outer
 frf:∀b∈frs outer,H b=none
 hok:HOk P w H s.heap
 bare:AllBare s.gens
noncomputable def CE(outer:List Env)(P:Program)(w:World)(H:Hp)(s:Shared)(Q:VK)(u:Value)(s':Shared):Prop :=
 ∃v H',s'.os=s.os/\AllBare s'.gens/\Un (frs outer) [] H H' s.heap s'.heap/\HOk P w H' s'.heap/\RelV v u/\Q v H'
noncomputable def CR(CX:CXT)(outer:List Env)(P:Program)(w:World)(H:Hp)(s:Shared)(Q:VK)(E:XK)(r:Result)(s':Shared):Prop :=
 match r with
 | .ok (.ret u)=>CE outer P w H s Q u s'
 | .ok _=>False
 | .error e=>CX outer H s E e s'
structure FnOk(P:Program)(w:World)(K:PySem.W.Frag)(mg:Str->Option Value)(base:Heap)(CX:CXT)(k:Nat)(f:Addr)(fd:FuncData)(ps:List Str)(sp:Sp):Prop where
 len:∀vs H Q E,sp vs H Q E->vs.length=ps.length
 run:∀(A:Around) (outer:List Env) (s:Shared) (H:Hp) (args:Args) (us:List Value) (vs:List V) (Q:VK) (E:XK),Room k A->Env0 P w K mg base A outer s H->BindsTo s fd args (ps.zip us)->Vals vs us->sp vs H Q E ->
  codeAny (model P w) A (.call (.ref f) args) (CR CX outer P w H s Q E) s
theorem FnOk.mono{P:Program}{w:World}{K:PySem.W.Frag}{mg:Str->Option Value}{base:Heap}{CX:CXT}{j k:Nat}{f:Addr}{fd:FuncData}{ps:List Str}{sp:Sp}(F:FnOk P w K mg base CX j f fd ps sp)(h:j<=k):
  FnOk P w K mg base CX k f fd ps sp:=⟨F.len,fun A outer s H args us vs Q E hr=>F.run A outer s H args us vs Q E (hr.mono h)⟩
theorem FnOk.imp{P:Program}{w:World}{K:PySem.W.Frag}{mg:Str->Option Value}{base:Heap}{CX:CXT}{k:Nat}{f:Addr}{fd:FuncData}{ps:List Str}{sp sp':Sp}(F:FnOk P w K mg base CX k f fd ps sp)
  (h:∀vs H Q E,sp' vs H Q E->sp vs H Q E):FnOk P w K mg base CX k f fd ps sp' :=
 ⟨fun vs H Q E q=>F.len vs H Q E (h _ _ _ _ q),fun A outer s H args us vs Q E hr he hb hv hs=>F.run A outer s H args us vs Q E hr he hb hv (h _ _ _ _ hs)⟩
theorem Env0.make{P:Program}{w:World}{K:PySem.W.Frag}{mg:Str->Option Value}{base:Heap}{A:Around}{outer:List Env}{s:Shared}{H:Hp}(e:Env0 P w K mg base A outer s H)(C:Addr)(us:List Value)(kw:List (Str×Value)):
  Env0 P w K mg base (A.under (.builtin "type.__call__" ⟨.ref C::us,kw⟩)) outer s H:=⟨by first | exact e.frames | (simpa [Around.under,Code.envs,Code.isFrame,pushEnvs]using e.frames),e.mod,e.bs,e.bsz,e.funs,e.frf,e.hok,e.bare⟩
section
variable {X:Cx}{pins:List (Addr×Obj)}{σ:St}{H:Hp}{s s':Shared}
theorem Inv.env0(I:Inv X pins σ H s):Env0 X.prog X.w X.K X.mg X.base X.A X.stack s H :=
 ⟨I.ok.frames,I.ok.mod,I.bs,Nat.le_trans I.ok.bsz I.sz,I.stack,I.stkFree,I.hok,I.bare⟩
theorem Inv.after{Q:VK}{u:Value}(I:Inv X pins σ H s)(h:CE X.stack X.prog X.w H s Q u s'):EP X pins σ Q u s':=by
 obtain⟨v,H',os,bare,un,hok,r,q⟩:=h;obtain⟨hh,g,d,t,os'⟩:=s';obtain rfl:os'=s.os:=os
 exact⟨v,H',I.call (h':=hh) (g':=g) (d':=d) (t':=t) (ch:=[]) un hok bare (fun b z=>absurd z (by simp)),r,q⟩
end
noncomputable def Qdh(sp:Sp)(dvs:List V)(E:XK)(t:TA):TE:=fun σ H Q=>t σ H fun vs H1=>sp (vs++dvs) H1 Q E
noncomputable def Qhy(C:Addr)(sp:Sp)(dvs:List V)(E:XK)(t:TA):TE:=fun σ H Q=>t σ H fun vs H1=>∀x dx,H1 x=none->H1 dx=none->dx≠x ->
 sp (.ref x::(vs++dvs)) (upd (upd H1 dx (.own x)) x (.ins C dx [])) (fun v H2=>v=.non/\Q (.ref x) H2) E
noncomputable def Binds(K:PySem.W.Frag)(fd:FuncData)(ps:List Str)(ds:List Value):Prop :=
 ∀(s:Shared) (us:List Value),K.In s.heap->(us++ds).length=ps.length->BindsTo s fd ⟨us,[]⟩ (ps.zip (us++ds))
theorem Binds.all{K:PySem.W.Frag}{fd:FuncData}{ps:List Str}(h:∀us:List Value,us.length=ps.length->bindArgs fd ⟨us,[]⟩=pure (ps.zip us)):Binds K fd ps []:=fun s us _ hl=>by
 rw [List.append_nil]at hl ⊢;exact .of_eq (h us hl)
noncomputable def Yw(CX:CXT)(X:Cx)(E:XK):Prop:=∀(pins:List (Addr×Obj)) (σ:St) (H:Hp) (s:Shared) (e:Value) (s':Shared),Inv X pins σ H s->CX X.stack H s E e s'->X.xe e s'
section
variable {X:Cx}{CX:CXT}{k:Nat}{f C:Addr}{fd:FuncData}{ps:List Str}{sp:Sp}{dvs:List V}{ds:List Value}{E:XK}{x m:Str}{p pos apos:Pos}{e o:Expr}{es:List Expr}{ta:TE}{t:TA}
theorem QbM{pins:List (Addr×Obj)}{σ:St}{H:Hp}{s:Shared}{Q:VK}{us:List Value}{vs:List V}(F:FnOk X.prog X.w X.K X.mg X.base CX k f fd ps sp)(hr:Room k X.A)(hb:Binds X.K fd ps ds)(hd:Vals dvs ds)(hx:Yw CX X E)
  (I:Inv X pins σ H s) (r:Vals vs us) (h:sp (vs++dvs) H Q E):wpAny (model X.prog X.w) X.A (call (.ref f) us) (EP X pins σ Q) X.xe s:=by
 have r2:Vals (vs++dvs) (us++ds):=r.append hd
 have hl:(us++ds).length=ps.length:=by rw [<-r2.length];exact F.len _ _ _ _ h
 refine wpAny_call (codeAny_mono (F.run X.A X.stack s H ⟨us,[]⟩ (us++ds) (vs++dvs) Q E hr I.env0 (hb s us I.kIn hl) r2 h) fun r s' hq=>?_)
 cases r with
 | error e=>exact hx pins σ H s e s' I hq
 | ok fl =>
  cases fl with
  | ret u=>exact I.after hq
  | next=>exact False.elim hq
  | brk=>exact False.elim hq
  | cont=>exact False.elim hq
theorem Qb0(F:FnOk X.prog X.w X.K X.mg X.base CX k f fd ps sp)(hr:Room k X.A)(hg:Gl X x)(hm:X.mg x=some (.ref f))(hk:PySem.W.keepIn X.K (.ref f)=true)(hb:Binds X.K fd ps ds)(hd:Vals dvs ds)(hx:Yw CX X E)
  (ha:PA X (e::es) t) (hdb:(x==("__debug__":Str))=false:=by decide) (he:starEach (e::es) X.env=(false,eval e X.env)::starEach es X.env:=by rfl) (hpl:(backTo pos (starEach es X.env)).any (·.1)=false:=by rfl):
  PE X (.Call (.Name x p) (e::es) [] pos) (Qdh sp dvs E t):=by
 intro pins s σ H Q I h;refine wpAny_Call_Name_kw (Zj I hg hm ?_ hdb);refine PySem.W.callWith_K (h₀:=X.base) I.ok.mod.kin hk (thn (ha pos pins s σ H _ I h) fun us s1 ⟨vs,H1,I1,r,q⟩=>⟨I1.kIn,?_⟩) he hpl;exact QbM F hr hb hd hx I1 r q
theorem QaP(F:FnOk X.prog X.w X.K X.mg X.base CX k f fd ps sp)(hr:Room k X.A)(hg:Gl X x)(hm:X.mg x=some (.ref f))(hk:PySem.W.keepIn X.K (.ref f)=true)(hb:Binds X.K fd ps ds)(hd:Vals dvs ds)(hx:Yw CX X E)
  (hdb:(x==("__debug__":Str))=false:=by decide):PE X (.Call (.Name x p) [] [] pos) (Qdh sp dvs E Qjo):=by
 intro pins s σ H Q I h;refine wpAny_Call_Name_kw (Zj I hg hm ?_ hdb);exact PySem.W.callWith_K0 I.kIn hk (QbM (us:=[]) F hr hb hd hx I .nil h)
structure Mk(K:PySem.W.Frag)(C f:Addr):Prop where
 makes:PySem.W.makesIn K C=true
 init:PySem.W.findIn K (.ref C) "__init__"=some (some (.ref f))
 fn:PySem.W.isFn K (.ref f)=true
 kp:PySem.W.keepIn K (.ref C)=true
theorem QaE{pins:List (Addr×Obj)}{σ:St}{H:Hp}{s:Shared}{Q:VK}{us:List Value}{vs:List V}(M:Mk X.K C f)(F:FnOk X.prog X.w X.K X.mg X.base CX k f fd ps sp)(hr:Room (k+1) X.A)(hb:Binds X.K fd ps ds)(hd:Vals dvs ds)
  (hx:Yw CX X E) (I:Inv X pins σ H s) (r:Vals vs us)
  (h:∀x dx,H x=none->H dx=none->dx≠x->sp (.ref x::(vs++dvs)) (upd (upd H dx (.own x)) x (.ins C dx [])) (fun v H2=>v=.non/\Q (.ref x) H2) E):
  wpAny (model X.prog X.w) X.A (call (.ref C) us) (EP X pins σ Q) X.xe s:=by
 have hq:=h (s.heap.objs.size+1) s.heap.objs.size (I.hok.fresh (Nat.le_succ _)) (I.hok.fresh (Nat.le_refl _)) (Nat.ne_of_lt (Nat.lt_succ_self _));have I2:=Inv.made (C:=C) I;have r2:Vals (V.ref (s.heap.objs.size+1)::(vs++dvs)) (Value.ref (s.heap.objs.size+1)::(us++ds)):=.cons rfl (r.append hd)
 have hl:(Value.ref (s.heap.objs.size+1)::us++ds).length=ps.length:=by
  have e:=r2.length;rw [F.len _ _ _ _ hq]at e;exact e.symm
 refine wpAny_call (Qes (f:=f) I.kIn M.makes M.init (beq_iff_eq.mp M.fn) (codeAny_mono (F.run _ X.stack _ _ ⟨Value.ref (s.heap.objs.size+1)::us,[]⟩ (Value.ref (s.heap.objs.size+1)::(us++ds)) _ _ E (hr.make C us [])
  (I2.env0.make C us []) (hb _ (Value.ref (s.heap.objs.size+1)::us) I2.kIn hl) r2 hq) fun r s' hq'=>?_))
 cases r with
 | error e=>exact hx pins σ _ _ e s' I2 hq'
 | ok fl =>
  cases fl with
  | ret u =>
   obtain⟨v,H',I3,rv,ev,q3⟩:=I2.after hq';subst ev;exact⟨rv,⟨V.ref (s.heap.objs.size+1),H',I3,rfl,q3⟩⟩
  | next=>exact False.elim hq'
  | brk=>exact False.elim hq'
  | cont=>exact False.elim hq'
theorem Qgd(M:Mk X.K C f)(F:FnOk X.prog X.w X.K X.mg X.base CX k f fd ps sp)(hr:Room (k+1) X.A)(hg:Gl X x)(hm:X.mg x=some (.ref C))(hb:Binds X.K fd ps ds)(hd:Vals dvs ds)(hx:Yw CX X E)
  (ha:PA X (e::es) t) (hdb:(x==("__debug__":Str))=false:=by decide) (he:starEach (e::es) X.env=(false,eval e X.env)::starEach es X.env:=by rfl) (hpl:(backTo pos (starEach es X.env)).any (·.1)=false:=by rfl):
  PE X (.Call (.Name x p) (e::es) [] pos) (Qhy C sp dvs E t):=by
 intro pins s σ H Q I h;refine wpAny_Call_Name_kw (Zj I hg hm ?_ hdb);refine PySem.W.callWith_K (h₀:=X.base) I.ok.mod.kin M.kp (thn (ha pos pins s σ H _ I h) fun us s1 ⟨vs,H1,I1,r,q⟩=>⟨I1.kIn,?_⟩) he hpl;exact QaE M F hr hb hd hx I1 r q
theorem Qef(M:Mk X.K C f)(F:FnOk X.prog X.w X.K X.mg X.base CX k f fd ps sp)(hr:Room (k+1) X.A)(hg:Gl X x)(hm:X.mg x=some (.ref C))(hb:Binds X.K fd ps ds)(hd:Vals dvs ds)(hx:Yw CX X E)
  (hdb:(x==("__debug__":Str))=false:=by decide):PE X (.Call (.Name x p) [] [] pos) (Qhy C sp dvs E Qjo):=by
 intro pins s σ H Q I h;refine wpAny_Call_Name_kw (Zj I hg hm ?_ hdb);exact PySem.W.callWith_K0 I.kIn M.kp (QaE (us:=[]) M F hr hb hd hx I .nil h)
end
section
variable {X:Cx}{CX:CXT}{k:Nat}{f C:Addr}{fd:FuncData}{ps ks:List Str}{sp:Sp}{E:XK}{x m:Str}{p pos apos kpos:Pos}{e o:Expr}{es:List Expr}{kws:List Keyword}{te ta:TE}{t tk:TA}{nm:Option Str}
structure KBinds(K:PySem.W.Frag)(fd:FuncData)(ps ks:List Str)(g:List Value->List Value->List Value)(gV:List V->List V->List V):Prop where
 to:∀(s:Shared) (us ws:List Value),K.In s.heap->(g us ws).length=ps.length->BindsTo s fd ⟨us,ks.zip ws⟩ (ps.zip (g us ws))
 rel:∀{vs:List V} {us:List Value} {zs:List V} {ws:List Value},Vals vs us->Vals zs ws->Vals (gV vs zs) (g us ws)
variable {g:List Value->List Value->List Value}{gV:List V->List V->List V}
end
structure FnScope(N P:List Str)(sc:Scope):Prop where
 kind:sc.kind=.function
 co:sc.isCoroutine=false
 gen:sc.isGenerator=false
 nd:N.Nodup
 pre:N.take P.length=P
 par:∀x∈P,sc.names.lookup x=some .local\/sc.names.lookup x=some .cell
 nofree:∀y∈sc.names,y.2≠.free
theorem JR{kindOf:Str->Option NameKind}{x:Str}:∀{binds:List (Str×Value)} {m:Str->Option Value},(∀v,(x,v)∉binds)->bindL kindOf binds m x=m x
 | [],_,_=>rfl
 | (n,v)::r,m,h=>by
  unfold bindL;rw [JR fun w hw=>h w (List.mem_cons_of_mem _ hw)];split
  ·have:x≠n:=by rintro rfl;exact h v List.mem_cons_self
   simp [this]
  ·rfl
theorem JT{kindOf:Str->Option NameKind}{x:Str}:∀{binds:List (Str×Value)} {m:Str->Option Value},(∀v,(x,v)∉binds)->bindC kindOf binds m x=m x
 | [],_,_=>rfl
 | (n,v)::r,m,h=>by
  unfold bindC;rw [JT fun w hw=>h w (List.mem_cons_of_mem _ hw)];split
  ·rfl
  ·have:x≠n:=by rintro rfl;exact h v List.mem_cons_self
   simp [this]
theorem JS{kindOf:Str->Option NameKind}{x:Str}{v:Value}:∀{P:List Str} {vs:List Value} {i:Nat} {m:Str->Option Value},P.Nodup->P[i]?=some x->vs[i]?=some v->kindOf x=some .local ->
  bindL kindOf (P.zip vs) m x=some v
 | [],_,_,_,_,h,_,_=>by simp at h
 | _::_,[],_,_,_,_,h,_=>by simp at h
 | p::P,w::vs,0,m,nd,h1,h2,hk=>by
  simp at h1 h2;subst h1;subst h2;show bindL kindOf ((p,w)::P.zip vs) m p=_;unfold bindL;rw [JR fun v hv=>(List.nodup_cons.mp nd).1 (List.of_mem_zip hv).1,if_pos hk];simp
 | p::P,w::vs,i+1,m,nd,h1,h2,hk=>by
  show bindL kindOf ((p,w)::P.zip vs) m x=_;unfold bindL
  exact JS (i:=i) (List.nodup_cons.mp nd).2 (by simpa using h1) (by simpa using h2) hk
theorem JU{kindOf:Str->Option NameKind}{x:Str}{v:Value}:∀{P:List Str} {vs:List Value} {i:Nat} {m:Str->Option Value},P.Nodup->P[i]?=some x->vs[i]?=some v->kindOf x≠some .local ->
  bindC kindOf (P.zip vs) m x=some v
 | [],_,_,_,_,h,_,_=>by simp at h
 | _::_,[],_,_,_,_,h,_=>by simp at h
 | p::P,w::vs,0,m,nd,h1,h2,hk=>by
  simp at h1 h2;subst h1;subst h2;show bindC kindOf ((p,w)::P.zip vs) m p=_;unfold bindC;rw [JT fun v hv=>(List.nodup_cons.mp nd).1 (List.of_mem_zip hv).1,if_neg hk];simp
 | p::P,w::vs,i+1,m,nd,h1,h2,hk=>by
  show bindC kindOf ((p,w)::P.zip vs) m x=_;unfold bindC
  exact JU (i:=i) (List.nodup_cons.mp nd).2 (by simpa using h1) (by simpa using h2) hk
noncomputable def start(N:List Str)(vs:List V):St:=vs.map some++List.replicate (N.length-vs.length) none
noncomputable def QcJ(CX:CXT)(P:Program)(w:World)(K:PySem.W.Frag)(mg:Str->Option Value)(base:Heap)(N:List Str)(qual:Str)(scope:Scope)(f:Addr)(cd:Value)(A:Around)(outer:List Env)(s:Shared)(H:Hp)(E:XK):Cx where
 prog:=P
 w:=w
 K:=K
 mg:=mg
 base:=base
 A:=A.deeper (envOfC qual scope s.heap.objs.size f cd)
 N:=N
 s₀:=s
 H₀:=H
 env:=envOfC qual scope s.heap.objs.size f cd
 outer:=outer
 stack:=envOfC qual scope s.heap.objs.size f cd::outer
 ex:=[]
 calm:=true
 fn:=fun _=>true
 pn:=[]
 xe:=fun e s'=>wpAny (model P w) (A.deeper (envOfC qual scope s.heap.objs.size f cd)) (leaving (envOfC qual scope s.heap.objs.size f cd) e) (fun _ s''=>CX outer H s E e s'') (fun e' s''=>CX outer H s E e' s'') s'
theorem Qa3{sc:Scope}{n:Nat}{x:Str}(h:sc.names.lookup x=some .cell):∃c,(cellsFrom n sc.names []).lookup x=some c:=by
 have q:=PySem.W.cellsFrom_some sc.names n [] (.inl h);exact Option.isSome_iff_exists.mp q
theorem Qcl{CX:CXT}{P:Program}{w:World}{K:PySem.W.Frag}{mg:Str->Option Value}{base:Heap}{N ps:List Str}{qual:Str}{scope:Scope}{f:Addr}{cd:Value}{A:Around}{outer:List Env}{s s1:Shared}{H:Hp}{E:XK}{us:List Value}{vs:List V}
  (S:FnScope N ps scope) (hd:A.handled=none) (e0:Env0 P w K mg base A outer s H) (hl:vs.length=ps.length) (r:Vals vs us)
  (x:InCallC s s.heap.objs.size (bindL (envOfC qual scope s.heap.objs.size f cd).kindOf (ps.zip us) fun _=>none) (cellsFrom (s.heap.objs.size+1) scope.names []) (bindC (envOfC qual scope s.heap.objs.size f cd).kindOf (ps.zip us) fun _=>none) s1):
  Inv (QcJ CX P w K mg base N qual scope f cd A outer s H E) [] (start N vs) H s1:=by
 have hpl:ps.length<=N.length:=by have:=congrArg List.length S.pre;rw [List.length_take]at this;omega
 obtain⟨h1,tk,rfl,hk⟩:=x.done
 have noA:∀b:Addr,b∉(QcJ CX P w K mg base N qual scope f cd A outer s H E).ex:=fun b z=>absurd (show b∈([]:List Addr)from z) (by simp)
 refine⟨⟨e0.mod,S.kind,rfl,rfl,Nat.le_refl _,fun y z c h1 h2=>?_,fun y hy=>?_,fun y c _ h=>?_,fun _=>hd,Around.frames_deeper e0.frames,.inr ⟨rfl,rfl⟩,fun b z=>absurd z (noA b),e0.bs,e0.bsz,fun b _ _=>noA b,fun b z=>absurd z (noA b),e0.funs,e0.frf⟩,
  rfl,e0.bare,Un.kept hk,⟨_,x.toInCall.ns,fun i y v h1 h2 h3=>?_⟩,fun y c h=>⟨_,x.cell y c h⟩,e0.hok.fresh (Nat.le_refl _),fun y c h=>?_,fun p hp=>absurd (show p∈([]:List (Addr×Obj))from hp) (by simp),e0.hok.kept hk,?_⟩
 ·exact name_of_addr x.apart (PySem.mem_of_lookup h1) (PySem.mem_of_lookup h2)
 ·have hy:scope.names.lookup y=some .cell\/scope.names.lookup y=some .free:=hy
  rcases hy with hy | hy
  ·exact Qa3 hy
  ·exact absurd rfl (S.nofree _ (PySem.mem_of_lookup hy))
 ·exact Nat.le_of_lt (x.above y c (PySem.mem_of_lookup h))
 ·have hi:i<vs.length:=by
   unfold start at h2;by_cases hi:i<vs.length
   ·exact hi
   ·rw [List.getElem?_append_right (by simpa using hi)]at h2
    rw [List.getElem?_replicate]at h2;split at h2<;>cases h2
  have ha:vs[i]?=some v:=by
   unfold start at h2
   rw [List.getElem?_append_left (by simpa using hi),List.getElem?_map]at h2
   cases e:vs[i]? with
   | none=>rw [e]at h2;cases h2
   | some a=>rw [e]at h2;cases h2;rfl
  obtain⟨u,hu,rv⟩:=r.get ha
  have hp:ps[i]?=some y:=by
   rw [<-S.pre,List.getElem?_take_of_lt (by omega)];exact h1
  have ndP:ps.Nodup:=by rw [<-S.pre];exact S.nd.sublist (List.take_sublist _ _)
  refine⟨u,rv,?_⟩
  rcases S.par y (List.mem_of_getElem? hp)with k | k
  ·exact .inl ⟨k,JS ndP hp hu k⟩
  ·obtain⟨c,e⟩:=Qa3 (n:=s.heap.objs.size+1) k;refine .inr ⟨.inl k,c,e,?_⟩;have q:=x.cell y c e
   rw [JU ndP hp hu (by show scope.names.lookup y≠_;rw [k];decide)]at q
   exact q
 ·exact e0.hok.fresh (Nat.le_of_lt (x.above y c (PySem.mem_of_lookup h)))
 ·unfold start;show _=N.length;rw [List.length_append,List.length_map,List.length_replicate];omega
theorem Qi1{CX:CXT}{P:Program}{w:World}{K:PySem.W.Frag}{mg:Str->Option Value}{base:Heap}{k:Nat}{f:Addr}{name qual:Str}{params:Arguments}{body:List Stmt}{scope:Scope}{dV kV doc pm cdv ct oc:Value}{an od:Option Addr}
  {osl:Array (Option Value)} {N ps:List Str} {sp:Sp} (lk:K.lookup f=some ⟨oc,od,.func (PySem.W.fnOf name qual params body scope dV kV doc pm an cdv ct),osl⟩) (hcd:PySem.W.codeIn K cdv qual=true) (S:FnScope N ps scope)
  (len:∀vs H Q E,sp vs H Q E->vs.length=ps.length)
  (hbody:∀(A:Around) (outer:List Env) (s:Shared) (H:Hp) (vs:List V) (Q:VK) (E:XK),Room k (A.deeper (envOfC qual scope s.heap.objs.size f cdv))->sp vs H Q E ->
   ∃t,PSs (QcJ CX P w K mg base N qual scope f cdv A outer s H E) body t/\t { nx:=fun _ H'=>Q .non H',rt:=Q } (start N vs) H):
  FnOk P w K mg base CX (k+1) f (PySem.W.fnOf name qual params body scope dV kV doc pm an cdv ct) ps sp:=by
 refine⟨len,fun A outer s H args us vs Q E hr e0 hb r hsp=>?_⟩;have hl:=len _ _ _ _ hsp;have KX:K.In s.heap:=e0.mod.kin.keeps fun b o e=>(e0.bs b o e).1;have lim:s.heap.NoLimit:=e0.mod.nolimit.keeps fun b o e=>(e0.bs b o e).1
 have hkind:∀y∈ps.zip us,scope.names.lookup y.1=some .local\/(scope.names.lookup y.1=some .cell/\((cellsFrom (s.heap.objs.size+1) scope.names []).lookup y.1).isSome=true):=fun⟨n,v⟩ hy=>by
  rcases S.par n (List.of_mem_zip hy).1 with q | q
  ·exact .inl q
  ·exact .inr ⟨q,PySem.W.cellsFrom_some _ _ _ (.inl q)⟩
 refine codeAny_call_function hr.depth (KX _ _ lk) rfl S.co S.gen rfl (PySem.W.codeRec_of KX hcd) (hb _ _ _ _ ?_);refine wpAny_newFunctionEnv_cells S.kind hkind fun env he s1 x=>?_;subst he;refine⟨lim.keeps x.toInCall.keep,codeAny_func ?_⟩;obtain⟨t,ht,hq⟩:=hbody A outer s H vs Q E (hr.deeper _) hsp;have I:Inv (QcJ CX P w K mg base N qual scope f cdv A outer s H E) [] (start N vs) H s1:=Qcl S hr.hd e0 hl r x;refine wpAny_mono (ht [] s1 (start N vs) H _ I hq) (fun fl s' hs=>?_) fun e s' hs=>hs
 have fin:∀{σ':St} {H':Hp} {v:V} {u:Value},Inv (QcJ CX P w K mg base N qual scope f cdv A outer s H E) [] σ' H' s'->RelV v u->Q v H'->CE outer P w H s Q u s' :=
  fun {σ' H' v u} J rv q=>⟨v,H',J.os,J.bare,J.base,J.hok,rv,q⟩
 cases fl with
 | ret u =>
  obtain⟨v,σ',H',J,rv,q⟩:=hs;exact fin J rv q
 | next =>
  obtain⟨σ',H',J,q⟩:=hs;exact fin (v:=V.non) (u:=Value.none) J rfl q
 | brk =>
  obtain⟨_,_,_,q⟩:=hs;exact False.elim q
 | cont =>
  obtain⟨_,_,_,q⟩:=hs;exact False.elim q
end L2
namespace L2
open PySem PySem.Spec PyProof.Rows
section
variable {X:Cx}{x:Str}{p pos:Pos}{e:Expr}{es:List Expr}{t:TA}{id T:String}{r:List V->Hp->VK->Prop}
noncomputable def tCB(r:List V->Hp->VK->Prop)(t:TA):TE:=fun σ H Q=>t σ H fun vs H1=>r vs H1 Q
theorem QaO(hc:CallR X (.builtin id) r)(hg:Gl X x)(hm:X.mg x=none)(hv:bootBuiltins x=some (.builtin id))(ha:PA X (e::es) t)(hn:x≠"__name__":=by decide) (hdb:(x==("__debug__":Str))=false:=by decide)
  (he:starEach (e::es) X.env=(false,eval e X.env)::starEach es X.env:=by rfl) (hpl:(backTo pos (starEach es X.env)).any (·.1)=false:=by rfl):PE X (.Call (.Name x p) (e::es) [] pos) (tCB r t):=by
 intro pins s σ H Q I h;refine wpAny_Call_Name_kw (Zz I hg hm hv ?_ hn hdb);exact PyProof.Rows.callWith_builtin1 (thn (ha pos pins s σ H _ I h) fun us s1 ⟨vs,H1,I1,r1,q1⟩=>hc pins s1 σ H1 vs us Q I1 r1 q1) he hpl
theorem ZJ(hc:CallR X (.type T) r)(hg:Gl X x)(hm:X.mg x=none)(hv:bootBuiltins x=some (.type T))(ha:PA X (e::es) t)(hn:x≠"__name__":=by decide) (hdb:(x==("__debug__":Str))=false:=by decide)
  (he:starEach (e::es) X.env=(false,eval e X.env)::starEach es X.env:=by rfl) (hpl:(backTo pos (starEach es X.env)).any (·.1)=false:=by rfl):PE X (.Call (.Name x p) (e::es) [] pos) (tCB r t):=by
 intro pins s σ H Q I h;refine wpAny_Call_Name_kw (Zz I hg hm hv ?_ hn hdb);exact PyProof.Rows.callWith_type1 (thn (ha pos pins s σ H _ I h) fun us s1 ⟨vs,H1,I1,r1,q1⟩=>hc pins s1 σ H1 vs us Q I1 r1 q1) he hpl
end
end L2
namespace HT
open PySem PyProof.Rows
section
open PySem.SeqAt
open PySem.AutoSeq1 (wpAny_loadPart')
open PySem.MeetsSeq PySem.MeetsSeq2 PySem.MeetsSeq3
end
section
variable {prog:Program}{w:World}{A:Around}{E:Value->Shared->Prop}{s:Shared}
theorem cat_tup{t b:Addr}{vs ws:List Value}{Q:Value->Shared->Prop}(ht:IsTup s.heap t vs.toArray)(hb:IsTup s.heap b ws.toArray)(hv:vs≠[])
  (h1:ws=[]->Q (.ref t) s) (h2:ws≠[]->Q (.ref s.heap.objs.size) { s with heap:=s.heap.push { cls:=.type "tuple",data:=.seq (vs++ws).toArray } })
  (hsz:vs.length+ws.length<=sizeLine):wpAny (model prog w) A (binaryOp .Add (.ref t) (.ref b)) Q E s:=by
 obtain⟨⟨cls,dd,data,sl⟩,ho,hc,n,hd⟩:=id ht;obtain⟨⟨cls2,dd2,data2,sl2⟩,ho2,hc2,n2,hd2⟩:=id hb;simp only at hc hd hc2 hd2;subst hc hd hc2 hd2
 have e:vs.toArray++ws.toArray=(vs++ws).toArray:=by simp
 by_cases hw:ws=[]
 ·exact concat_meets ⟨_,ho,rfl⟩ ⟨_,ho2,rfl⟩ noFill_tuple_add seq_tuple_add PySem.F.slot_tuple_add PySem.F.entry_tuple_add (PySem.F.args_tuple_add_2 _ _)
   (tuple_addW1 t b vs.toArray ws.toArray n n2 dd dd2 sl sl2 (by simpa using hv) (by simp [hw])) ⟨ho,ho2,h1 hw⟩
 ·refine concat_meets ⟨_,ho,rfl⟩ ⟨_,ho2,rfl⟩ noFill_tuple_add seq_tuple_add PySem.F.slot_tuple_add PySem.F.entry_tuple_add (PySem.F.args_tuple_add_2 _ _)
   (tuple_addW2 t b vs.toArray ws.toArray n n2 dd dd2 sl sl2 (by simpa using hv) (by simpa using hw) (by rw [List.size_toArray,List.size_toArray];exact hsz)) ⟨ho,ho2,?_⟩
  rw [e];exact h2 hw
noncomputable def sIx(n d:Nat):Option Int->Nat
 | none=>d
 | some v=>if v<0 then(v+(n:Int)).toNat else min v.toNat n
theorem sIx_le(n d:Nat)(hd:d<=n)(o:Option Int):sIx n d o<=n:=by
 cases o with
 | none=>exact hd
 | some v =>
  show(if v<0 then(v+(n:Int)).toNat else min v.toNat n)<=n;by_cases hv:v<0
  ·rw [if_pos hv];omega
  ·rw [if_neg hv];exact Nat.min_le_right _ _
theorem clip_eq(v:Int)(n d:Nat):(if v<0 then max (v+(n:Int)) 0 else min v (n:Int))=((sIx n d (some v):Nat):Int):=by
 show(if v<0 then max (v+(n:Int)) 0 else min v (n:Int))=(((if v<0 then(v+(n:Int)).toNat else min v.toNat n):Nat):Int);by_cases hv:v<0
 ·simp only [if_pos hv];omega
 ·simp only [if_neg hv];omega
theorem Qbs(lo hi:Option Int)(n:Nat):Builtin.Slice.sliceAdjust lo hi 1 (n:Int)=(((sIx n 0 lo:Nat):Int),((sIx n n hi:Nat):Int)):=by
 have h1:¬((1:Int) < 0):=by omega
 unfold Builtin.Slice.sliceAdjust;simp only [h1,if_false];refine Prod.ext ?_ ?_
 ·cases lo with
  | none=>rfl
  | some v=>exact clip_eq v n 0
 ·cases hi with
  | none=>rfl
  | some v=>exact clip_eq v n n
theorem Qa9(i j:Nat):Builtin.Slice.slicePlaces (i:Int) (j:Int) 1=j-i:=by
 unfold Builtin.Slice.slicePlaces
 have h1:(1:Int) > 0:=by omega
 simp only [h1,if_true,Int.ediv_one];split<;>omega
theorem YJ{v:Value}{o:Option Int}{Q:Option Int->Shared->Prop}(p:IsPart v o)(h:Q o s):wpAny (model prog w) A (Builtin.Slice.slicePartIndex v) Q E s:=by
 cases p with
 | none=>exact slicePart_none h
 | int i t=>exact slicePart_int h
theorem ZX{sl:Addr}{vl vu:Value}{lo hi:Option Int}{n:Nat}{Q:Int×Int×Nat->Shared->Prop}(hs:s.heap.IsSliceOf sl vl vu .none)(pl:IsPart vl lo)(pu:IsPart vu hi)
  (h:Q (((sIx n 0 lo:Nat):Int),1,sIx n n hi-sIx n 0 lo) s):wpAny (model prog w) A (Builtin.Slice.sliceApplied (.ref sl) (pure (n:Int))) Q E s:=by
 obtain⟨os,hos,hcs,hds⟩:=id hs;unfold Builtin.Slice.sliceApplied Builtin.Slice.sliceFields;refine wpAny_bind (wpAny_bind (wpAny_field hos hds (x:=vl) rfl (wpAny_bind (wpAny_field hos hds (x:=vu) rfl (wpAny_bind (wpAny_field hos hds (x:=.none) rfl (wpAny_pure ?_)))))));refine wpAny_bind (slicePart_none ?_);show wpAny _ _ (if((1:Int)==0)=true then _ else _) _ _ s
 rw [if_neg (by decide)]
 refine wpAny_bind (YJ pl (wpAny_bind (YJ pu (wpAny_bind (wpAny_pure ?_)))))
 show wpAny _ _ (match Builtin.Slice.sliceAdjust lo hi 1 (n:Int)with | (lo,hi)=>pure (lo,(1:Int),Builtin.Slice.slicePlaces lo hi 1)) _ _ s
 rw [Qbs lo hi n];show wpAny _ _ (pure (((sIx n 0 lo:Nat):Int),(1:Int),Builtin.Slice.slicePlaces ((sIx n 0 lo:Nat):Int) ((sIx n n hi:Nat):Int) 1)) _ _ s;rw [Qa9];exact wpAny_pure h
theorem Qed(xs:Array Value)(i k:Nat):((List.range k).filterMap fun(m:Nat)=>xs[((i:Int)+(m:Int)*1).toNat]?).toArray=((xs.toList.drop i).take k).toArray:=by
 have e:(fun(m:Nat)=>xs[((i:Int)+(m:Int)*1).toNat]?)=fun m=>xs[i+m]?:=by
  funext m
  have:((i:Int)+(m:Int)*1).toNat=i+m:=by omega
  rw [this]
 rw [e];have:=pick_run xs i k;rw [List.filterMap_map]at this;have e2:((fun x=>xs[x]?)∘fun x=>i+x)=fun m=>xs[i+m]?:=rfl;rw [e2]at this;rw [this]
theorem getItem_tuple_cut{t sl:Addr}{items:Array Value}{vl vu:Value}{lo hi:Option Int}{Q:Value->Shared->Prop}(ht:IsTup s.heap t items)(hs:s.heap.IsSliceOf sl vl vu .none)(pl:IsPart vl lo)(pu:IsPart vu hi)
  (hw:¬(sIx items.size 0 lo=0/\sIx items.size items.size hi=items.size))
  (h:Q (.ref s.heap.objs.size) { s with heap:=s.heap.push { cls:=.type "tuple",data:=.seq ((items.toList.drop (sIx items.size 0 lo)).take (sIx items.size items.size hi-sIx items.size 0 lo)).toArray } })
  (hsz:items.size<=sizeLine):wpAny (model prog w) A (getItem (.ref t) (.ref sl)) Q E s:=by
 have htake:sizeOk (.seq ((items.toList.drop (sIx items.size 0 lo)).take (sIx items.size items.size hi-sIx items.size 0 lo)).toArray):=by
  show((items.toList.drop (sIx items.size 0 lo)).take (sIx items.size items.size hi-sIx items.size 0 lo)).toArray.size<=sizeLine;rw [List.size_toArray,List.length_take,List.length_drop,Array.length_toList];omega
 have hj:sIx items.size items.size hi<=items.size:=sIx_le _ _ (Nat.le_refl _) hi;obtain⟨os,hos,hcs,hds⟩:=id hs;have hTs:s.TypeIs (.ref sl) "slice":=⟨os,hos,hcs⟩;unfold getItem;try with_reducible refine wpAny_holding ?_
 first | refine wpAny_bind (wpAny_pure ?_) | skip
 refine wpAny_bind (wpAny_sequenceKey ht.typeIs (by decide) ?_)
 refine wpAny_bind (wpAny_callSpecial?_slot (name:=Str.ofString "__getitem__") ht.typeIs PyProof.Rows.slot_tuple_getitem
  (wpAny_call_entry PyProof.Rows.slot_tuple_getitem ht.typeIs entry_tuple_getitem ?_ (args_tuple_getitem _ _)))
 show wpAny _ _ (Builtin.Tuple.tupleItemsOf (.ref t) >>= _) _ _ s;refine wpAny_bind (tupleItemsOf_ ht ?_);refine wpAny_bind (wpAny_typeOf hTs ?_)
 rw [if_pos (by decide)]
 refine wpAny_bind (ZX hs pl pu ?_)
 have hno:¬((((sIx items.size 0 lo:Nat):Int)==0&&(1:Int)==1&&(sIx items.size items.size hi-sIx items.size 0 lo)==items.size)=true):=by
  intro q;rw [Bool.and_eq_true,Bool.and_eq_true]at q;have q1:((sIx items.size 0 lo:Nat):Int)=0:=eq_of_beq q.1.1;have q2:sIx items.size items.size hi-sIx items.size 0 lo=items.size:=eq_of_beq q.2
  exact hw ⟨by omega,by omega⟩
 show wpAny _ _ (if(((sIx items.size 0 lo:Nat):Int)==0&&(1:Int)==1&&(sIx items.size items.size hi-sIx items.size 0 lo)==items.size)=true then _ else _) _ _ s;rw [if_neg hno,Qed]
 first
  | exact wpAny_bind (m:=Builtin.Tuple.tupleExact _) (wpAny_newObj_type (wpAny_pure ⟨_,rfl,wpAny_pure h⟩) htake)
  | exact wpAny_bind (m:=Builtin.Tuple.tupleExact _) (wpAny_newObj_type (wpAny_bind (wpAny_pure (wpAny_pure ⟨_,rfl,wpAny_pure h⟩))) htake)
  | exact wpAny_bind (wpAny_bind (m:=Builtin.Tuple.tupleExact _) (wpAny_newObj_type (wpAny_pure (wpAny_pure ⟨_,rfl,wpAny_pure h⟩)) htake))
  | exact wpAny_bind (wpAny_bind (m:=Builtin.Tuple.tupleExact _) (wpAny_newObj_type (wpAny_pure ⟨_,rfl,wpAny_pure h⟩) htake))
end
end HT
namespace L2
open PySem PySem.Spec PyProof.Rows
noncomputable abbrev TO:=St->Hp->(Option Int->Hp->Prop)->Prop
noncomputable def PO(X:Cx)(e:Option Expr)(t:TO):Prop :=
 ∀(pins:List (Addr×Obj)) (s:Shared) (σ:St) (H:Hp) (Q:Option Int->Hp->Prop),Inv X pins σ H s->t σ H Q ->
  wpAny (model X.prog X.w) X.A (evalPart e X.env) (fun u s'=>∃o H',Inv X pins σ H' s'/\IsPart u o/\Q o H') X.xe s
noncomputable def QfG:TO:=fun _ H Q=>Q none H
noncomputable def Qhx(t:TE):TO:=fun σ H Q=>t σ H fun x H1=>∃i,x=.int i/\Q (some i) H1
section
variable {X:Cx}{e:Expr}{te:TE}{lo hi:Option Expr}{tl th:TO}{pos p2:Pos}
theorem Qf7:PO X none QfG:=by
 intro pins s σ H Q I h;rw [evalPart_none];exact wpAny_pure ⟨none,H,I,.none,h⟩
theorem QbS(h:PE X e te):PO X (some e) (Qhx te):=by
 intro pins s σ H Q I hw;rw [evalPart_some];refine thn (h pins s σ H _ I hw) fun u s1 ⟨x,H1,I1,r1,q1⟩=>?_;obtain⟨i,rfl,q⟩:=q1;obtain⟨t,rfl⟩:=r1;exact⟨some i,H1,I1,.int i t,q⟩
noncomputable def SlR(X:Cx)(r:V->Option Int->Option Int->Hp->VK->Prop):Prop :=
 ∀(pins:List (Addr×Obj)) (s:Shared) (σ:St) (H:Hp) (x:V) (v vl vu:Value) (lo hi:Option Int) (sl:Addr) (Q:VK),Inv X pins σ H s->RelV x v->s.heap.IsSliceOf sl vl vu .none->IsPart vl lo->IsPart vu hi->r x lo hi H Q ->
  ∃ T id, typeLookup (.type T) "__getitem__" = pure (some (.builtin id)) /\ s.TypeIs v T /\ wpAny (model X.prog X.w) X.A (getItem v (.ref sl)) (EP X pins σ Q) X.xe s
theorem SlR.or{r r':V->Option Int->Option Int->Hp->VK->Prop}(h:SlR X r)(h':SlR X r'):SlR X (fun x lo hi H Q=>r x lo hi H Q\/r' x lo hi H Q):=by
 intro pins s σ H x v vl vu lo hi sl Q I rx hs pl pu q
 rcases q with q | q
 ·exact h pins s σ H x v vl vu lo hi sl Q I rx hs pl pu q
 ·exact h' pins s σ H x v vl vu lo hi sl Q I rx hs pl pu q
noncomputable def tSl(r:V->Option Int->Option Int->Hp->VK->Prop)(te:TE)(tl th:TO):TE:=fun σ H Q=>te σ H fun x H1=>tl σ H1 fun l H2=>th σ H2 fun u H3=>r x l u H3 Q
theorem Qee{r:V->Option Int->Option Int->Hp->VK->Prop}(hr:SlR X r)(he:PE X e te)(hl:PO X lo tl)(hu:PO X hi th):PE X (.Subscript e (.Slice lo hi none p2) pos) (tSl r te tl th):=by
 intro pins s σ H Q I h;refine Subscript_ (thn (he pins s σ H _ I h) fun v s1 ⟨x,H1,I1,r1,q1⟩=>?_);refine wpAny_Slice (thn (hl pins s1 σ H1 _ I1 q1) fun vl s2 ⟨l,H2,I2,pl,q2⟩=>thn (hu pins s2 σ H2 _ I2 q2) fun vu s3 ⟨u,H3,I3,pu,q3⟩=>?_);rw [evalPart_none];refine wpAny_pure ?_;have I4:Inv X pins σ H3 { s3 with heap:=s3.heap.push { cls:=.type "slice",data:=.fields #[vl,vu,.none] } }:=I3.kept (t':=s3.toks) fun b ob q=>Heap.get?_push_of_some _ q;obtain⟨T,id,hT,ht,hg⟩:=hr pins { s3 with heap:=s3.heap.push { cls:=.type "slice",data:=.fields #[vl,vu,.none] } } σ H3 x v vl vu l u s3.heap.objs.size Q I4 r1 (Heap.IsSliceOf.new ..) pl pu q3;show wpAny (model X.prog X.w) X.A (subscriptTail e (.Slice lo hi none p2) v (.ref s3.heap.objs.size)) (EP X pins σ Q) X.xe { s3 with heap:=s3.heap.push { cls:=.type "slice",data:=.fields #[vl,vu,.none] } }
 exact tail_any (ops:=[.ref s3.heap.objs.size,v]) ht hT hg (by with_unfolding_all rfl)
noncomputable def Qfu(xs:List V)(lo hi:Option Int):List V:=(xs.drop (HT.sIx xs.length 0 lo)).take (HT.sIx xs.length xs.length hi-HT.sIx xs.length 0 lo)
theorem Yt(xs:List V)(lo hi:Option Int):(Qfu xs lo hi).length<=xs.length:=by
 unfold Qfu;rw [List.length_take,List.length_drop];omega
noncomputable def QlK(K:PySem.W.Frag):V->Option Int->Option Int->Hp->VK->Prop:=fun x lo hi H Q=>∃a xs,x=.ref a/\SqT K H a xs /\
 ¬(HT.sIx xs.length 0 lo=0/\HT.sIx xs.length xs.length hi=xs.length)/\∀p,H p=none->Q (.ref p) (upd H p (.tup (Qfu xs lo hi)))
theorem sl_tup:SlR X (QlK X.K):=by
 intro pins s σ H x v vl vu lo hi sl Q I rx hs pl pu h;obtain⟨a,xs,rfl,hx,hw,q⟩:=h;cases rx;obtain⟨its,r,ht,hz⟩:=I.tuple hx
 have hlen:its.toArray.size=xs.length:=by rw [List.size_toArray];exact r.length.symm
 refine⟨"tuple",_,PyProof.Rows.slot_tuple_getitem.lookup,ht.typeIs,?_⟩
 refine HT.getItem_tuple_cut ht hs pl pu (by rw [hlen];exact hw) ?_ (by rw [hlen];exact hz)
 rw [hlen];refine⟨.ref s.heap.objs.size,_,I.laid (t':=s.toks) (o:=.tup (Qfu xs lo hi)) (fun b ob q=>Heap.get?_push_of_some _ q) (Nat.le_refl _) ?_,rfl,q _ (I.hok.fresh (Nat.le_refl _))⟩;exact⟨Nat.le_trans (Yt xs lo hi) hz,_,(r.drop (HT.sIx xs.length 0 lo)).take (HT.sIx xs.length xs.length hi-HT.sIx xs.length 0 lo),IsTup.new _ _⟩
noncomputable def Qj9(K:PySem.W.Frag):R2:=fun x y H Q=>∃a b xs ys,x=.ref a/\y=.ref b/\SqT K H a xs/\SqT K H b ys/\xs≠[]/\xs.length+ys.length<=sizeLine /\
 (ys=[]->Q (.ref a) H)/\(ys≠[]->∀p,H p=none->Q (.ref p) (upd H p (.tup (xs++ys))))
theorem Vals.nil_iff{xs:List V}{us:List Value}(r:Vals xs us):us=[]↔xs=[]:=by
 cases r with
 | nil=>simp
 | cons _ _=>simp
theorem Qgl:OpR X (binaryOp .Add) (Qj9 X.K):=by
 intro pins s σ H x y v u Q I rx ry h;obtain⟨a,b,xs,ys,rfl,rfl,ha,hb,hx,hz,q1,q2⟩:=h;cases rx;cases ry;obtain⟨its,r1,p1,_⟩:=I.tuple ha;obtain⟨its2,r2,p2,_⟩:=I.tuple hb
 refine HT.cat_tup p1 p2 (fun z=>hx (r1.nil_iff.mp z)) (fun z=>⟨.ref a,H,I,rfl,q1 (r2.nil_iff.mp z)⟩) (fun z=>?_) (by rw [<-r1.length,<-r2.length];exact hz)
 refine⟨.ref s.heap.objs.size,_,I.laid (t':=s.toks) (o:=.tup (xs++ys)) (fun b ob q=>Heap.get?_push_of_some _ q) (Nat.le_refl _) ?_,rfl,q2 (fun w=>z (r2.nil_iff.mpr w)) _ (I.hok.fresh (Nat.le_refl _))⟩
 exact⟨by rw [List.length_append];exact hz,_,r1.append r2,IsTup.new _ _⟩
end
end L2
namespace L2
open PySem PySem.Spec PyProof.Rows
noncomputable def ixN(n:Nat)(i:Int):Option Nat:=if 0<=i then(if i<n then some i.toNat else none)else if -(n:Int)<=i then some (i+n).toNat else none
noncomputable def atI{α:Type}(xs:List α)(i:Int):Option α:=(ixN xs.length i).bind fun j=>xs[j]?
theorem Qcg{n:Nat}{i:Int}{j:Nat}(h:ixN n i=some j):seqIndex? i n=some j/\j<n/\-(n:Int)<=i/\i<n:=by
 unfold ixN at h;by_cases h0:0<=i
 ·rw [if_pos h0]at h;by_cases h1:i<n
  ·rw [if_pos h1]at h;have e:i.toNat=j:=Option.some.inj h
   exact⟨by rw [seqIndex_of h0 h1,e],by omega,by omega,h1⟩
  ·rw [if_neg h1]at h;cases h
 ·rw [if_neg h0]at h;by_cases h1:-(n:Int)<=i
  ·rw [if_pos h1]at h;have e:(i+n).toNat=j:=Option.some.inj h
   exact⟨by rw [seqIndex_neg (by omega) h1,e],by omega,h1,by omega⟩
  ·rw [if_neg h1]at h;cases h
theorem Qav{α:Type}{xs:List α}{i:Int}{v:α}(h:atI xs i=some v):∃j,seqIndex? i xs.length=some j/\xs[j]?=some v/\j<xs.length/\-(xs.length:Int)<=i/\i<xs.length:=by
 unfold atI at h
 cases e:ixN xs.length i with
 | none=>rw [e]at h;cases h
 | some j =>
  rw [e]at h;obtain⟨h1,h2,h3,h4⟩:=Qcg e;exact⟨j,h1,h,h2,h3,h4⟩
noncomputable def QcY(b:Expr):Prop:=∀o i,subscripted b false o i=operate [o,i] (getItem o i)
noncomputable def IxR(X:Cx)(r:R2):Prop :=
 ∀(value slice:Expr) (pins:List (Addr×Obj)) (s:Shared) (σ:St) (H:Hp) (x y:V) (v u:Value) (Q:VK),Inv X pins σ H s->RelV x v->RelV y u->r x y H Q ->
  subscripted slice false v u=operate [v,u] (getItem v u)->wpAny (model X.prog X.w) X.A (subscriptTail value slice v u) (EP X pins σ Q) X.xe s
noncomputable def MtR(X:Cx)(id:String)(r:V->List V->Hp->VK->Prop):Prop :=
 ∀(pins:List (Addr×Obj)) (s:Shared) (σ:St) (H:Hp) (x:V) (xs:List V) (v:Value) (us:List Value) (Q:VK),Inv X pins σ H s->RelV x v->Vals xs us->r x xs H Q ->
  wpAny (model X.prog X.w) X.A (call (.builtin id) (v::us)) (EP X pins σ Q) X.xe s
section
variable {X:Cx}{a b:Expr}{ta tb:TE}{pos:Pos}
theorem IxR.or{r r':R2}(h:IxR X r)(h':IxR X r'):IxR X (fun x y H Q=>r x y H Q\/r' x y H Q):=by
 intro value slice pins s σ H x y v u Q I rx ry q hs
 rcases q with q | q
 ·exact h value slice pins s σ H x y v u Q I rx ry q hs
 ·exact h' value slice pins s σ H x y v u Q I rx ry q hs
theorem Qkd{r:R2}(hr:IxR X r)(ha:PE X a ta)(hb:PE X b tb)(hs:QcY b):PE X (.Subscript a b pos) (tOp r ta tb):=by
 intro pins s σ H Q I h;exact Subscript_ (Qlq ha hb I h fun v u s2 x y H2 I2 rx ry q=>hr a b pins s2 σ H2 x y v u Q I2 rx ry q (hs _ _))
noncomputable def QlQ(K:PySem.W.Frag):R2:=fun x y H Q=>∃p xs i v,x=.ref p/\y=.int i/\SqL K H p xs/\atI xs i=some v/\Q v H
noncomputable def QlO(K:PySem.W.Frag):R2:=fun x y H Q=>∃p xs i v,x=.ref p/\y=.int i/\SqT K H p xs/\atI xs i=some v/\Q v H
noncomputable def QlP:R2:=fun x y H Q=>∃z i c,x=.str z/\y=.int i/\z.length<=sizeLine/\atI z.cps.toList i=some c/\Q (.str ⟨#[c]⟩) H
theorem ix_list:IxR X (QlQ X.K):=by
 intro value slice pins s σ H x y v u Q I rx ry h hs;obtain⟨p,xs,i,z,rfl,rfl,hq,he,q⟩:=h;cases rx;obtain⟨t,rfl⟩:=ry;obtain⟨its,r,pl,hz⟩:=I.list hq;obtain⟨j,h1,h2,h3,h4,h5⟩:=Qav he;obtain⟨w,ew,rw'⟩:=r.get h2;have hl:=r.length;have hn:=Yl;have fin:EP X pins σ Q w s:=⟨z,H,I,rw',q⟩;by_cases h0:0<=i
 ·have hj:i.toNat=j:=by
   rw [seqIndex_of h0 h5]at h1;exact Option.some.inj h1
  exact item_listR pl.isList h0 (by omega) (by rw [hj];simpa using ew) fin hs
 ·have hj:(i+(its.toArray.size:Int)).toNat=j:=by
   rw [seqIndex_neg (by omega) h4]at h1
   rw [List.size_toArray,<-hl];exact Option.some.inj h1
  exact subscriptTail_builtinR (x:=w) pl.isList.typeIs slot_list_getitem.lookup
   (wpAny_getItem_list_neg (Q:=fun r s'=>r=w/\EP X pins σ Q r s') pl.isList (by omega) (by rw [List.size_toArray]<;>omega) (by omega) (by rw [hj];simpa using ew) ⟨rfl,fin⟩) hs
theorem ix_tup:IxR X (QlO X.K):=by
 intro value slice pins s σ H x y v u Q I rx ry h hs;obtain⟨p,xs,i,z,rfl,rfl,hq,he,q⟩:=h;cases rx;obtain⟨t,rfl⟩:=ry;obtain⟨its,r,pl,hz⟩:=I.tuple hq;obtain⟨j,h1,h2,h3,h4,h5⟩:=Qav he;obtain⟨w,ew,rw'⟩:=r.get h2;have hl:=r.length;have hn:=Yl;have fin:EP X pins σ Q w s:=⟨z,H,I,rw',q⟩
 exact subscriptTail_builtinR (x:=w) pl.typeIs slot_tuple_getitem.lookup
  (getItem_tuple (j:=j) (Q:=fun r s'=>r=w/\EP X pins σ Q r s') pl (by omega) (by omega) (by rw [List.size_toArray,<-hl];exact h1) (by simpa using ew) ⟨rfl,fin⟩) hs
theorem QiS:IxR X QlP:=by
 intro value slice pins s σ H x y v u Q I rx ry h hs;obtain⟨z,i,c,rfl,rfl,hz,he,q⟩:=h;obtain⟨t,rfl⟩:=rx;obtain⟨t',rfl⟩:=ry;obtain⟨j,h1,h2,h3,h4,h5⟩:=Qav he
 have hl:z.cps.toList.length=z.length:=by simp [Str.length]
 rw [hl]at h1 h4 h5;have hn:=Yl
 exact tail_any (typeIs_str s z t) slot_str_getitem.lookup (getItem_str (c:=c) (by
  have e1:decide (i < -(2 ^ 63:Int))=false:=decide_eq_false (by omega)
  have e2:decide (i≥2 ^ 63)=false:=decide_eq_false (by omega)
  rw [e1,e2,Bool.or_false]) (by rw [h1];simpa using h2) ⟨.str ⟨#[c]⟩,H,I.tok _,⟨_,rfl⟩,q⟩) hs
noncomputable def rIx(K:PySem.W.Frag):R2:=fun x y H Q=>QlQ K x y H Q\/QlO K x y H Q\/QlP x y H Q
theorem ix_seq:IxR X (rIx X.K):=ix_list.or (ix_tup.or QiS)
theorem Qbe(its:List Value)(n j:Nat)(u:Value):Obj.mapSeq (·.setIfInBounds j u) { cls:=.type "list",data:=.seq its.toArray n }={ cls:=.type "list",data:=.seq (its.set j u).toArray n }:=by
 simp [Obj.mapSeq]
theorem Inv.lst{pins:List (Addr×Obj)}{σ:St}{H:Hp}{s:Shared}{p:Addr}{xs:List V}(I:Inv X pins σ H s)(h:H p=some (.lst xs)):
  ∃ (its : List Value) (n : Nat), Vals xs its /\ s.heap.get? p = some { cls := .type "list", data := .seq its.toArray n } /\ xs.length <= sizeLine := by
 obtain⟨z,its,n,r,e⟩:=I.hok p _ h;exact⟨its,n,r,e,z⟩
theorem Inv.lstUpd{pins:List (Addr×Obj)}{σ:St}{H:Hp}{s:Shared}{p:Addr}{xs ys:List V}{its its':List Value}{n n':Nat}{f:Obj->Obj}(I:Inv X pins σ H s)(h:H p=some (.lst xs))
  (ho:s.heap.get? p=some { cls:=.type "list",data:=.seq its.toArray n }) (hf:f { cls:=.type "list",data:=.seq its.toArray n }={ cls:=.type "list",data:=.seq its'.toArray n' }) (r:Vals ys its') (hz:ys.length<=sizeLine) (t:Nat):
  Inv X pins σ (upd H p (.lst ys)) { s with heap:=s.heap.update p f,toks:=t }:=by
 have e:(s.heap.update p f).get? p=some { cls:=.type "list",data:=.seq its'.toArray n' }:=by
  rw [Heap.get?_update_self f ho (by rw [hf]<;>rfl),hf]
 refine I.write (x:=p) (e:=p) (by rw [h];trivial) (.inl rfl) (fun b u hb q=>(Heap.get?_update_other _ _ (Ne.symm hb)).trans q) ⟨_,e⟩ ?_
 exact⟨hz,its',n',r,e⟩
noncomputable def Qj5:V->V->V->Hp->(Hp->Prop)->Prop:=fun o i v H Q=>∃p xs k j,o=.ref p/\i=.int k/\H p=some (.lst xs)/\ixN xs.length k=some j/\Q (upd H p (.lst (xs.set j v)))
theorem Qd1:Qhl X Qj5:=by
 intro pins s σ H o i v ov iv u Q I ro ri rv h;obtain⟨p,xs,k,j,rfl,rfl,hp,hj,q⟩:=h;cases ro;obtain⟨t,rfl⟩:=ri;obtain⟨its,n,r,ho,hz⟩:=I.lst hp;obtain⟨h1,h2,h3,h4⟩:=Qcg hj;have hl:=r.length;have hn:=Yl
 have I':Inv X pins σ (upd H p (.lst (xs.set j v))) { s with heap:=s.heap.update p (Obj.mapSeq (·.setIfInBounds j u)) }:=
  I.lstUpd hp ho (Qbe its n j u) (r.set rv j) (by rw [List.length_set];exact hz) s.toks
 by_cases h0:0<=k
 ·have hk:k.toNat=j:=by
   rw [seqIndex_of h0 h4]at h1;exact Option.some.inj h1
  exact PySem.W.ki_setAt ho h0 (by omega) (by rw [List.size_toArray,<-hl];exact h4) (by rw [hk];exact⟨_,I',q⟩)
 ·have hk:(k+(its.toArray.size:Int)).toNat=j:=by
   rw [seqIndex_neg (by omega) h3]at h1
   rw [List.size_toArray,<-hl];exact Option.some.inj h1
  exact PySem.W.ki_setBack ho (by omega) (by rw [List.size_toArray,<-hl];exact h3) (by omega) (by rw [hk];exact⟨_,I',q⟩)
theorem Jp(lo hi:Option Int)(n:Nat):(sliceBounds lo hi none n).1=((HT.sIx n 0 lo:Nat):Int)/\(sliceBounds lo hi none n).2.1=((HT.sIx n n hi:Nat):Int)/\(sliceBounds lo hi none n).2.2=1:=by
 refine⟨?_,?_,rfl⟩
 ·cases lo with
  | none=>simp [sliceBounds,HT.sIx]
  | some i =>
   simp only [sliceBounds,HT.sIx,Option.getD_none,show(1:Int) > 0 by decide,if_true]
   by_cases h:i<0
   ·simp only [h,if_true]<;>omega
   ·simp only [h,if_false]<;>omega
 ·cases hi with
  | none=>simp [sliceBounds,HT.sIx]
  | some i =>
   simp only [sliceBounds,HT.sIx,Option.getD_none,show(1:Int) > 0 by decide,if_true]
   by_cases h:i<0
   ·simp only [h,if_true]<;>omega
   ·simp only [h,if_false]<;>omega
theorem Y0(its:List Value)(lo hi:Option Int):slicePick its.toArray lo hi none=((its.drop (HT.sIx its.length 0 lo)).take (HT.sIx its.length its.length hi-HT.sIx its.length 0 lo)).toArray:=by
 obtain⟨h1,h2,h3⟩:=Jp lo hi its.toArray.size;unfold slicePick;rw [h1,h2,h3];simp only [sliceRange_one,pick_run,List.size_toArray]<;>rfl
noncomputable def QlM(K:PySem.W.Frag):V->Option Int->Option Int->Hp->VK->Prop:=fun x lo hi H Q=>∃a xs,x=.ref a/\SqL K H a xs/\∀p,H p=none->Q (.ref p) (upd H p (.lst (Qfu xs lo hi)))
theorem sl_list:SlR X (QlM X.K):=by
 intro pins s σ H x v vl vu lo hi sl Q I rx hs pl pu h;obtain⟨a,xs,rfl,hx,q⟩:=h;cases rx;obtain⟨its,r,ht,hz⟩:=I.list hx;have hlen:=r.length;refine⟨"list",_,slot_list_getitem.lookup,ht.isList.typeIs,?_⟩
 refine wpAny_getItem_list_slice ht.isList hs pl pu .none (by simp) ?_ (by rw [List.size_toArray]<;>omega)
 rw [Y0,<-hlen];refine⟨.ref s.heap.objs.size,_,I.laid (t':=s.toks) (o:=.lst (Qfu xs lo hi)) (fun b ob q=>Heap.get?_push_of_some _ q) (Nat.le_refl _) ?_,rfl,q _ (I.hok.fresh (Nat.le_refl _))⟩;exact⟨Nat.le_trans (Yt xs lo hi) hz,_,0,(r.drop (HT.sIx xs.length 0 lo)).take (HT.sIx xs.length xs.length hi-HT.sIx xs.length 0 lo),Heap.get?_push_size _ rfl⟩
noncomputable def YC:V->Bool
 | .non=>true
 | .bl _=>true
 | .int _=>true
 | .str _=>true
 | _=>false
noncomputable def eqV:V->V->Bool
 | .non,.non=>true
 | .bl a,.bl b=>a==b
 | .bl a,.int b=>(if a then 1 else 0)==b
 | .int a,.bl b=>a==(if b then 1 else 0)
 | .int a,.int b=>a==b
 | .str a,.str b=>a==b
 | _,_=>false
theorem Qi5{A:Around}{s:Shared}{y x:V}{u v:Value}(ry:RelV y u)(rx:RelV x v)(fy:YC y=true)(fx:YC x=true):SeqAt.EqAt A s u v (eqV y x):=by
 cases y with
 | non =>
  cases ry
  cases x with
  | non=>cases rx;exact SeqAt.EqAt.same _
  | bl b=>cases rx;exact SeqAt.EqAt.none_bool b
  | int b=>obtain⟨t,rfl⟩:=rx;exact SeqAt.EqAt.none_int b t
  | str b=>obtain⟨t,rfl⟩:=rx;exact SeqAt.EqAt.none_str b t
  | _=>exact absurd (show false=true from fx) Bool.false_ne_true
 | bl a =>
  cases ry
  cases x with
  | non=>cases rx;exact SeqAt.EqAt.bool_none a
  | bl b=>cases rx;exact SeqAt.EqAt.bool_bool a b
  | int b=>obtain⟨t,rfl⟩:=rx;exact SeqAt.EqAt.bool_int a b t
  | str b=>obtain⟨t,rfl⟩:=rx;exact SeqAt.EqAt.bool_str a b t
  | _=>exact absurd (show false=true from fx) Bool.false_ne_true
 | int a =>
  obtain⟨t',rfl⟩:=ry
  cases x with
  | non=>cases rx;exact SeqAt.EqAt.int_none a t'
  | bl b=>cases rx;exact SeqAt.EqAt.int_bool a t' b
  | int b=>obtain⟨t,rfl⟩:=rx;exact SeqAt.EqAt.int_int a t' b t
  | str b=>obtain⟨t,rfl⟩:=rx;exact SeqAt.EqAt.int_str a t' b t
  | _=>exact absurd (show false=true from fx) Bool.false_ne_true
 | str a =>
  obtain⟨t',rfl⟩:=ry
  cases x with
  | non=>cases rx;exact SeqAt.EqAt.str_none a t'
  | bl b=>cases rx;exact SeqAt.EqAt.str_bool a t' b
  | int b=>obtain⟨t,rfl⟩:=rx;exact SeqAt.EqAt.str_int a t' b t
  | str b=>obtain⟨t,rfl⟩:=rx;exact SeqAt.EqAt.str_str a t' b t
  | _=>exact absurd (show false=true from fx) Bool.false_ne_true
 | _=>exact absurd (show false=true from fy) Bool.false_ne_true
noncomputable def eqU(x:V)(u:Value):Bool:=match u with
 | .none=>eqV .non x
 | .bool b=>eqV (.bl b) x
 | .int i _=>eqV (.int i) x
 | .str z _=>eqV (.str z) x
 | _=>false
theorem Qfp{x y:V}{u:Value}(r:RelV y u)(f:YC y=true):eqU x u=eqV y x:=by
 cases y with
 | non=>cases r;rfl
 | bl b=>cases r;rfl
 | int i=>obtain⟨t,rfl⟩:=r;rfl
 | str z=>obtain⟨t,rfl⟩:=r;rfl
 | _=>exact absurd (show false=true from f) Bool.false_ne_true
theorem Yv{x:V}:∀{xs:List V} {us:List Value},Vals xs us->xs.all YC=true->us.any (eqU x)=xs.any fun y=>eqV y x
 | _,_,.nil,_=>rfl
 | y::xs,u::us,.cons r t,f=>by
  rw [List.all_cons,Bool.and_eq_true]at f;rw [List.any_cons,List.any_cons,Qfp r f.1,Yv t f.2]
theorem ZK{A:Around}{s:Shared}{x:V}{v:Value}(rx:RelV x v)(fx:YC x=true):∀{xs:List V} {us:List Value},Vals xs us->xs.all YC=true->∀u∈us,SeqAt.EqAt A s u v (eqU x u)
 | _,_,.nil,_=>fun u hu=>by cases hu
 | y::xs,u::us,.cons r t,f=>fun u' hu=>by
  rw [List.all_cons,Bool.and_eq_true]at f
  rcases List.mem_cons.mp hu with rfl | hu
  ·rw [Qfp r f.1];exact Qi5 r rx f.1 fx
  ·exact ZK rx fx t f.2 u' hu
noncomputable def inV(x:V)(xs:List V):Bool:=xs.any fun y=>eqV y x
noncomputable def rIn(K:PySem.W.Frag)(neg:Bool):R2:=fun x y H Q=>∃p xs,y=.ref p/\(SqL K H p xs\/SqT K H p xs)/\YC x=true/\xs.all YC=true/\Q (.bl (if neg then !inV x xs else inV x xs)) H
theorem Qb4:OpR X (compareOp .In) (rIn X.K false):=by
 intro pins s σ H x y v u Q I rx ry h;obtain⟨p,xs,rfl,hq,fx,fs,q⟩:=h;cases ry
 rcases hq with hq | hq
 ·obtain⟨its,r,pl,hz⟩:=I.list hq
  refine SeqAt.in_listAt (eqU x) pl.isList (fun w hw=>ZK rx fx r fs w (by simpa using hw)) ⟨.bl _,H,I,rfl,?_⟩
  rw [show its.toArray.any (eqU x)=its.any (eqU x) by simp,Yv r fs]
  exact q
 ·obtain⟨its,r,pl,hz⟩:=I.tuple hq
  refine SeqAt.in_tupleAt (eqU x) pl (fun w hw=>ZK rx fx r fs w (by simpa using hw)) ⟨.bl _,H,I,rfl,?_⟩
  rw [show its.toArray.any (eqU x)=its.any (eqU x) by simp,Yv r fs]
  exact q
theorem Ju:OpR X (compareOp .NotIn) (rIn X.K true):=by
 intro pins s σ H x y v u Q I rx ry h;obtain⟨p,xs,rfl,hq,fx,fs,q⟩:=h;cases ry
 rcases hq with hq | hq
 ·obtain⟨its,r,pl,hz⟩:=I.list hq
  refine SeqAt.notIn_listAt (eqU x) pl.isList (fun w hw=>ZK rx fx r fs w (by simpa using hw)) ⟨.bl _,H,I,rfl,?_⟩
  rw [show its.toArray.any (eqU x)=its.any (eqU x) by simp,Yv r fs]
  exact q
 ·obtain⟨its,r,pl,hz⟩:=I.tuple hq
  refine SeqAt.notIn_tupleAt (eqU x) pl (fun w hw=>ZK rx fx r fs w (by simpa using hw)) ⟨.bl _,H,I,rfl,?_⟩
  rw [show its.toArray.any (eqU x)=its.any (eqU x) by simp,Yv r fs]
  exact q
theorem JP : CallR X (.builtin "len") (fun xs H Q => ∃ p ys, xs = [.ref p] /\ (SqL X.K H p ys \/ SqT X.K H p ys) /\ Q (.int ys.length) H) := by
 intro pins s σ H xs us Q I r h;obtain⟨p,ys,rfl,hq,q⟩:=h;obtain⟨u,rfl,rx⟩:=Jl r;cases rx;have hn:=Yl
 rcases hq with hq | hq
 ·obtain⟨its,r',pl,hz⟩:=I.list hq;have hlen:=r'.length
  exact Calls.call_len_list pl.isList (by simp only [List.size_toArray]<;>omega) ⟨.int ys.length,H,I.tok _,⟨s.toks+1,by rw [List.size_toArray,hlen]⟩,q⟩
 ·obtain⟨its,r',pl,hz⟩:=I.tuple hq;have hlen:=r'.length
  exact len_tuple pl (by simp only [List.size_toArray]<;>omega) ⟨.int ys.length,H,I.tok _,⟨s.toks+1,by rw [List.size_toArray,hlen]⟩,q⟩
theorem JO : CallR X (.builtin "len") (fun xs H Q => ∃ z, xs = [.str z] /\ z.length <= sizeLine /\ Q (.int z.length) H) := by
 intro pins s σ H xs us Q I r h;obtain⟨z,rfl,hz,q⟩:=h;obtain⟨u,rfl,t,rfl⟩:=Jl r;have hn:=Yl
 exact len_str (by omega) ⟨.int z.length,H,I.tok _,⟨_,rfl⟩,q⟩
theorem CallR.or{f:Value}{r r':List V->Hp->VK->Prop}(h:CallR X f r)(h':CallR X f r'):CallR X f (fun xs H Q=>r xs H Q\/r' xs H Q):=by
 intro pins s σ H xs us Q I rs q
 rcases q with q | q
 ·exact h pins s σ H xs us Q I rs q
 ·exact h' pins s σ H xs us Q I rs q
theorem JN : CallR X (.type "list") (fun xs H Q => ∃ p ys, xs = [.ref p] /\ (SqL X.K H p ys \/ SqT X.K H p ys) /\ ∀ l, H l = none -> Q (.ref l) (upd H l (.lst ys))) := by
 intro pins s σ H xs us Q I r h;obtain⟨p,ys,rfl,hq,q⟩:=h;obtain⟨u,rfl,rx⟩:=Jl r;cases rx
 have fin:∀(its:List Value),Vals ys its->ys.length<=sizeLine->∀(h':Heap) (c':Nat),(∀b o',s.heap.get? b=some o'->h'.get? b=some o') ->
   h'.get? s.heap.objs.size=some { cls:=.type "list",dict:=none,data:=.seq its.toArray c',slots:=#[] }->EP X pins σ Q (.ref s.heap.objs.size) { s with heap:=h' }:=fun its r' hz h' c' kp e =>
  ⟨.ref s.heap.objs.size,_,I.laid (t':=s.toks) kp (Nat.le_refl _) (show ObjOk X.prog X.w _ h' _ (.lst ys)from⟨hz,its,c',r',e⟩),rfl,q _ (I.hok.fresh (Nat.le_refl _))⟩
 rcases hq with hq | hq
 ·obtain⟨its,r',pl,hz⟩:=I.list hq;have hlen:=r'.length;obtain⟨o,ho,hc,n,hd⟩:=pl.isList
  exact call_list_seq p (.inl rfl) ho hc hd (fun h' c' kp e=>fin its r' hz h' c' kp e) (by simp only [List.size_toArray]<;>omega)
 ·obtain⟨its,r',pl,hz⟩:=I.tuple hq;have hlen:=r'.length;obtain⟨o,ho,hc,n,hd⟩:=pl
  exact call_list_seq p (.inr rfl) ho hc hd (fun h' c' kp e=>fin its r' hz h' c' kp e) (by simp only [List.size_toArray]<;>omega)
theorem Je : CallR X (.type "tuple") (fun xs H Q => ∃ p ys, xs = [.ref p] /\ ((SqL X.K H p ys /\ ∀ l, H l = none -> Q (.ref l) (upd H l (.tup ys))) \/ (SqT X.K H p ys /\ Q (.ref p) H))) := by
 intro pins s σ H xs us Q I r h;obtain⟨p,ys,rfl,h⟩:=h;obtain⟨u,rfl,rx⟩:=Jl r;cases rx
 rcases h with⟨hq,q⟩ | ⟨hq,q⟩
 ·obtain⟨its,r',pl,hz⟩:=I.list hq;have hlen:=r'.length
  refine call_tuple_list pl.isList (fun h' kp=>?_) (by simp only [List.size_toArray]<;>omega)
  have I1:Inv X pins σ H { s with heap:=h' }:=I.kept (t':=s.toks) kp
  have I2:Inv X pins σ (upd H h'.objs.size (.tup ys)) { s with heap:=h'.push { cls:=.type "tuple",data:=.seq its.toArray } }:=
   I1.laid (t':=s.toks) (fun b o e=>Heap.get?_push_of_some _ e) (Nat.le_refl _) (show ObjOk X.prog X.w _ _ _ (.tup ys)from⟨hz,its,r',IsTup.new _ _⟩)
  exact⟨.ref h'.objs.size,_,I2,rfl,q _ (I1.hok.fresh (Nat.le_refl _))⟩
 ·obtain⟨its,r',pl,hz⟩:=I.tuple hq;exact call_tuple_same pl ⟨.ref p,H,I,rfl,q⟩
noncomputable def tyV(K:PySem.W.Frag)(T:String)(x:V)(H:Hp):Prop:=match x with
 | .str _=>T="str"
 | .int _=>T="int"
 | .ref p => (T = "list" /\ ∃ xs, SqL K H p xs) \/ (T = "tuple" /\ ∃ o, K.lookup p = some o /\ o.cls = .type "tuple" /\ o.dict = none) \/
   (T = "dict" /\ ((∃ kvs, H p = some (.dK kvs)) \/ ∃ kvs, H p = some (.dT kvs))) \/ (T = "set" /\ ∃ S n, H p = some (.set S n))
 | _=>False
theorem Qe6{pins:List (Addr×Obj)}{σ:St}{H:Hp}{s:Shared}{T:String}{x:V}{v:Value}(I:Inv X pins σ H s)(r:RelV x v)(ty:tyV X.K T x H):
  s.TypeIs v T/\∀a,v=.ref a->∃ob,s.heap.get? a=some ob/\ob.dict=none:=by
 cases x with
 | str z =>
  obtain⟨t,rfl⟩:=r;cases(show T="str" from ty);exact⟨typeIs_str s z t,fun _ e=>nomatch e⟩
 | int i =>
  obtain⟨t,rfl⟩:=r;cases(show T="int" from ty);exact⟨typeIs_int s i t,fun _ e=>nomatch e⟩
 | ref p =>
  cases r
  rcases ty with⟨rfl,xs,hq⟩ | ⟨rfl,o,hk,hc,hd⟩ | ⟨rfl,hk⟩ | ⟨rfl,S,n,hk⟩
  ·obtain⟨its,_,pl,_⟩:=I.list hq;refine⟨pl.isList.typeIs,fun a e=>?_⟩;cases e;obtain⟨o,n,e,c,hd,_⟩:=pl;exact⟨o,e,hd⟩
  ·refine⟨⟨o,I.kIn p o hk,hc⟩,fun a e=>?_⟩;cases e;exact⟨o,I.kIn _ o hk,hd⟩
  ·have z:∃o,s.heap.get? p=some o/\o.ExactDict:=by
    rcases hk with⟨kvs,hk⟩ | ⟨kvs,hk⟩
    ·obtain⟨_,_,_,_,o,_,_,e,ex,_⟩:=I.hok p _ hk;exact⟨o,e,ex⟩
    ·obtain⟨_,_,_,_,o,_,_,e,ex,_⟩:=I.hok p _ hk;exact⟨o,e,ex⟩
   obtain⟨o,e,ex⟩:=z;refine⟨⟨o,e,ex.1⟩,fun a e2=>?_⟩;cases e2;exact⟨o,e,ex.2.1⟩
  ·obtain⟨o,_,_,_,e,ex,_⟩:=I.hok p _ hk;refine⟨⟨o,e,ex.1⟩,fun a e2=>?_⟩;cases e2;exact⟨o,e,ex.2.1⟩
 | _=>exact False.elim ty
noncomputable def Qml(K:PySem.W.Frag)(T:String)(r:V->List V->Hp->VK->Prop)(to:TE):TE:=fun σ H Q=>to σ H fun x H1=>tyV K T x H1/\r x [] H1 Q
noncomputable def tBM(K:PySem.W.Frag)(T:String)(r:V->List V->Hp->VK->Prop)(to:TE)(t:TA):TE:=fun σ H Q=>to σ H fun x H1=>tyV K T x H1/\t σ H1 fun xs H2=>r x xs H2 Q
variable {o e:Expr}{es:List Expr}{to:TE}{t:TA}{name:Str}{apos cpos:Pos}{T id:String}{r:V->List V->Hp->VK->Prop}
theorem Qip(pa:PlainAttrs T)(slot:Slot T name id)(hty:typeOf (.builtin id)=pure (.type "method_descriptor")) (hm:MtR X id r) (ho:PE X o to)
  (hbase:attributeBase o name X.env (eval o X.env)=eval o X.env:=by rfl) (hline:(apos.endLine==cpos.line)=true:=by rfl):PE X (.Call (.Attribute o name apos) [] [] cpos) (Qml X.K T r to):=by
 intro pins s σ H Q I h;refine wpAny_Call_method0_late hbase hline (thn (ho pins s σ H _ I h) fun v s1 ⟨x,H1,I1,r1,ty,q1⟩=>?_);obtain⟨h1,h2⟩:=Qe6 I1 r1 ty;exact⟨T,id,pa,slot,hty,h1,h2,Calls.callWith_builtin rfl (PySem.evalArgs_none (hm pins s1 σ H1 x [] v [] Q I1 r1 .nil q1))⟩
theorem Qke(pa:PlainAttrs T)(slot:Slot T name id)(hty:typeOf (.builtin id)=pure (.type "method_descriptor")) (hm:MtR X id r) (ho:PE X o to) (ha:PA X (e::es) t)
  (hbase:attributeBase o name X.env (eval o X.env)=eval o X.env:=by rfl)
  (hfew:((backTo cpos (starEach (e::es) X.env)).all (fun x=>!x.1)&&(backToKw cpos (keywordEach [] X.env)).all (fun x=>x.1.isSome)
   && decide ((e::es).length+([]:List Keyword).length+(if([]:List Keyword).isEmpty then 0 else 1) < 30))=true:=by rfl)
  (hline:(apos.endLine==cpos.line)=true:=by rfl) (hs:starEach (e::es) X.env=(false,eval e X.env)::starEach es X.env:=by rfl) (hplain:(backTo cpos (starEach es X.env)).any (·.1)=false:=by rfl):
  PE X (.Call (.Attribute o name apos) (e::es) [] cpos) (tBM X.K T r to t):=by
 intro pins s σ H Q I h;refine wpAny_Call_method_late hbase hfew hline rfl (thn (ho pins s σ H _ I h) fun v s1 ⟨x,H1,I1,r1,ty,q1⟩=>?_);obtain⟨h1,h2⟩:=Qe6 I1 r1 ty;refine⟨T,id,pa,slot,hty,h1,h2,?_⟩;have hA:=ha cpos pins s1 σ H1 _ I1 q1;rw [hs]at hA ⊢
 refine Calls.callWith_builtin (by show(false||(backTo cpos (starEach es X.env)).any (·.1))=false;rw [hplain]<;>rfl) (Calls.evalArgs_plain ?_)
 exact thn hA fun us s2 ⟨vs,H2,I2,r2,q2⟩=>hm pins s2 σ H2 x vs v us Q I2 r1 r2 q2
end
end L2
namespace L2
open PySem PySem.Spec PyProof.Rows
noncomputable def MtM(X:Cx)(id:String)(r:V->List V->Hp->VK->Prop):Prop :=
 ∀(pins:List (Addr×Obj)) (s:Shared) (σ:St) (H:Hp) (x:V) (xs:List V) (v:Value) (us:List Value) (Q:VK),Inv X pins σ H s->RelV x v->Vals xs us->r x xs H Q ->
  wpAny (model X.prog X.w) X.A (call (.builtin id) (v::us)) (EP X pins σ Q) X.xe s
theorem Vals.one:∀{x:V} {us:List Value},Vals [x] us->∃u,us=[u]/\RelV x u
 | _,_,.cons r .nil=>⟨_,rfl,r⟩
theorem Vals.two:∀{x y:V} {us:List Value},Vals [x,y] us->∃u v,us=[u,v]/\RelV x u/\RelV y v
 | _,_,_,.cons r (.cons q .nil)=>⟨_,_,rfl,r,q⟩
theorem Vals.reverse{xs:List V}{us:List Value}(h:Vals xs us):Vals xs.reverse us.reverse:=by
 induction h with
 | nil=>exact .nil
 | cons r t ih=>rw [List.reverse_cons,List.reverse_cons];exact Vals.append ih (.cons r .nil)
theorem Vals.rep{xs:List V}{us:List Value}(h:Vals xs us):∀k:Nat,Vals (List.replicate k xs).flatten (List.replicate k us).flatten
 | 0=>.nil
 | k+1=>by
  rw [List.replicate_succ,List.replicate_succ,List.flatten_cons,List.flatten_cons];exact Vals.append h (Vals.rep h k)
theorem JF(its:List Value):∀(k:Nat) (acc:List Value),
  List.foldl (fun x1 x2=>x1++x2) acc.toArray (List.replicate k its.toArray)=(acc++(List.replicate k its).flatten).toArray
 | 0,acc=>by simp
 | k+1,acc=>by
  have e:acc.toArray++its.toArray=(acc++its).toArray:=by simp
  have e2:(acc++its)++(List.replicate k its).flatten=acc++(List.replicate (k+1) its).flatten:=by
   rw [List.replicate_succ,List.flatten_cons,List.append_assoc]
  rw [<-e2,<-JF its k (acc++its),<-e,List.replicate_succ,List.foldl_cons]
section
variable {X:Cx}{pins:List (Addr×Obj)}{σ:St}{H:Hp}{s:Shared}{l b:Addr}{xs ys zs:List V}
theorem Inv.lset{its its':List Value}{n:Nat}{f:Array Value->Array Value}{t':Nat}(I:Inv X pins σ H s)(hH:H l=some (.lst xs))
  (e:s.heap.get? l=some { cls:=.type "list",data:=.seq its.toArray n }) (hf:f its.toArray=its'.toArray) (hv:Vals ys its') (hz:ys.length<=sizeLine):
  Inv X pins σ (upd H l (.lst ys)) { s with heap:=s.heap.update l (Obj.mapSeq f),toks:=t' }:=by
 have q:=PySem.IsL.update e f;rw [hf]at q
 refine I.write (x:=l) (e:=l) (by rw [hH];exact trivial) (.inl rfl) (fun b' u hb hu=>(Heap.get?_update_other s.heap (Obj.mapSeq f) (Ne.symm hb)).trans hu) ⟨_,q⟩ ?_
 exact⟨hz,its',_,hv,q⟩
theorem Inv.lnew{its:List Value}{t':Nat}(I:Inv X pins σ H s)(hv:Vals ys its)(hz:ys.length<=sizeLine):
  Inv X pins σ (upd H s.heap.objs.size (.lst ys)) { s with heap:=s.heap.push { cls:=.type "list",data:=.seq its.toArray },toks:=t' }:=
 I.laid (fun _ _ q=>Heap.get?_push_of_some _ q) (Nat.le_refl _) ⟨hz,its,0,hv,Heap.get?_push_size _ rfl⟩
theorem Inv.fresh(I:Inv X pins σ H s):H s.heap.objs.size=none:=I.hok.fresh (Nat.le_refl _)
theorem Inv.lstM (I : Inv X pins σ H s) (hH : H l = some (.lst xs)) : xs.length <= sizeLine /\ ∃ (its : List Value) (n : Nat), Vals xs its /\ xs.length = its.length /\ s.heap.get? l = some { cls := .type "list", data := .seq its.toArray n } := by
 obtain⟨z,its,n,r,e⟩:=I.hok l _ hH;exact⟨z,its,n,r,r.length,e⟩
theorem Qep{n:Nat}(h:n<=sizeLine):Builtin.List.listTooLong n=false:=by
 unfold Builtin.List.listTooLong
 exact decide_eq_false (by omega)
end
section
variable {X:Cx}
noncomputable def QfY:V->List V->Hp->VK->Prop:=fun x vs H Q=>∃l xs y,x=.ref l/\vs=[y]/\H l=some (.lst xs)/\xs.length<sizeLine/\Q .non (upd H l (.lst (xs++[y])))
theorem Jw:MtM X "list.append" QfY:=by
 intro pins s σ H x vs v us Q I rx rv h;obtain⟨l,xs,y,rfl,rfl,hH,hz,q⟩:=h;cases rx;obtain⟨u,rfl,ru⟩:=rv.one;obtain⟨z,its,n,r,hl,e⟩:=I.lstM hH
 refine call_meets F.slot_list_append ⟨_,e,rfl⟩ F.entry_list_append (F.args_list_append_2 _ _) (PySem.list_append l its.toArray n u (by rw [List.size_toArray];omega)) ⟨e,?_⟩
 refine⟨.non,_,I.lset (its':=its++[u]) hH e (by simp) (r.append (.cons ru .nil)) ?_,rfl,q⟩
 rw [List.length_append,List.length_singleton];omega
noncomputable def Qm9:R2:=fun x y H Q=>∃l b xs zs,x=.ref l/\y=.ref b/\H l=some (.lst xs)/\H b=some (.lst zs)/\xs.length+zs.length<=sizeLine/\∀p,H p=none->Q (.ref p) (upd H p (.lst (xs++zs)))
theorem QiE:OpR X (binaryOp .Add) Qm9:=by
 intro pins s σ H x y v u Q I rx ry h;obtain⟨l,b,xs,zs,rfl,rfl,hH,hB,hz,q⟩:=h;cases rx;cases ry;obtain⟨z,its,n,r,hl,e⟩:=I.lstM hH;obtain⟨z2,its2,n2,r2,hl2,e2⟩:=I.lstM hB
 refine PySem.P.add_list e e2 ?_ (by rw [List.size_toArray,List.size_toArray];omega)
 have ea:its.toArray++its2.toArray=(its++its2).toArray:=by simp
 rw [ea]
 exact⟨.ref _,_,I.lnew (t':=s.toks) (r.append r2) (by rw [List.length_append];omega),rfl,q _ I.fresh⟩
noncomputable def Qm8:R2:=fun x y H Q=>∃l k xs,x=.ref l/\y=.int k/\H l=some (.lst xs)/\-(2 ^ 63)<=k/\k<2 ^ 63/\xs.length*k.toNat<=sizeLine /\
 ∀p,H p=none->Q (.ref p) (upd H p (.lst (List.replicate k.toNat xs).flatten))
theorem QgA{α:Type}(xs:List α)(k:Nat):(List.replicate k xs).flatten.length=k*xs.length:=by
 induction k with
 | zero=>simp
 | succ k ih=>rw [List.replicate_succ,List.flatten_cons,List.length_append,ih,Nat.succ_mul,Nat.add_comm]
theorem Qit:OpR X (binaryOp .Mult) Qm8:=by
 intro pins s σ H x y v u Q I rx ry h;obtain⟨l,k,xs,rfl,rfl,hH,h1,h2,hz,q⟩:=h;cases rx;obtain⟨t,rfl⟩:=ry;obtain⟨z,its,n,r,hl,e⟩:=I.lstM hH
 have hlen:its.toArray.size*k.toNat<=sizeLine:=by rw [List.size_toArray,<-hl];exact hz
 have hcap:¬its.toArray.size*k.toNat>(2 ^ 63-1) / 8:=by
  have:(sizeLine:Nat)<=(2 ^ 63-1) / 8:=by decide
  omega
 have hfit:¬(!Builtin.List.listFitsIndex k)=true:=by
  rw [fitsIndex_both h1 h2];exact Bool.false_ne_true
 have hlong:¬Builtin.List.listTooLong (its.toArray.size*k.toNat)=true:=by
  rw [Qep hlen];exact Bool.false_ne_true
 have hnew:List.foldl (fun x1 x2=>x1++x2) #[] (List.replicate (if its.toArray.isEmpty=true then 0 else k.toNat) its.toArray)=(List.replicate k.toNat its).flatten.toArray:=by
  have f0:∀m:Nat,List.foldl (fun x1 x2=>x1++x2) #[] (List.replicate m its.toArray)=(List.replicate m its).flatten.toArray:=fun m=>by
   have:=JF its m [];rw [List.nil_append]at this;exact this
  rw [f0]
  cases its with
  | nil=>simp
  | cons a r'=>rw [if_neg (by simp)]
 refine wpAny_binaryOp_repeat_ref (T:="list") (U:="int") (by decide) ⟨_,e,rfl⟩ (fun s'=>typeIs_int s' k t) noFill_list_mul F.fills_int_mul F.slot_int_rmul repeat_list F.slot_int_index.lookup
  (call_meets F.slot_int_rmul (typeIs_int s k t) F.entry_int_rmul (F.args_int_rmul_2 _ _) (int___rmul___int_list k t l its.toArray n)
   ⟨e,rfl,⟨_,e,rfl⟩,call_meets F.slot_list_mul ⟨_,e,rfl⟩ F.entry_list_mul (F.args_list_mul_2 _ _) (AutoListH.list___mul___list_int_3 l its.toArray n k t hfit hcap hlong) ⟨e,?_⟩⟩)
 rw [hnew]
 exact⟨.ref _,_,I.lnew (t':=s.toks) (r.rep k.toNat) (by rw [QgA,Nat.mul_comm];exact hz),rfl,q _ I.fresh⟩
end
section
variable {prog:Program}{w:World}{A:Around}{E:Value->Shared->Prop}{s:Shared}
set_option maxRecDepth 100000 in
end
section
variable {X:Cx}
end
end L2
namespace L2
open PySem PySem.Spec PyProof.Rows
section
variable {κ:Type}[DecidableEq κ]
noncomputable def Zl(kvs:List (κ×V))(k:κ):Option V:=(kvs.find? fun kv=>decide (kv.1=k)).map (·.2)
noncomputable def ZS(kvs:List (κ×V))(k:κ)(v:V):List (κ×V):=
 if(kvs.any fun kv=>decide (kv.1=k))=true then kvs.map (fun kv=>if kv.1=k then(kv.1,v)else kv)else kvs++[(k,v)]
theorem QI{p:κ×V}{r:List (κ×V)}{k:κ}(e:p.1=k):Zl (p::r) k=some p.2:=by simp [Zl,List.find?_cons,e]
theorem QJ{p:κ×V}{r:List (κ×V)}{k:κ}(e:¬p.1=k):Zl (p::r) k=Zl r k:=by simp [Zl,List.find?_cons,e]
theorem ZE(k:κ):∀kvs:List (κ×V),(kvs.any fun kv=>decide (kv.1=k))=(Zl kvs k).isSome
 | []=>rfl
 | p::r=>by
  rw [List.any_cons];by_cases e:p.1=k
  ·simp only [QI e,decide_eq_true e,Bool.true_or,Option.isSome_some]
  ·rw [QJ e,decide_eq_false e,Bool.false_or];exact ZE k r
theorem QaA(k j:κ)(y:V):∀kvs:List (κ×V),Zl (kvs.map fun kv=>if kv.1=k then(kv.1,y)else kv) j=(Zl kvs j).map fun x=>if j=k then y else x
 | []=>rfl
 | p::r=>by
  have ih:=QaA k j y r;rw [List.map_cons];by_cases h:p.1=k
  ·rw [if_pos h];by_cases e:p.1=j
   ·rw [QI (p:=(p.1,y)) e,QI e,Option.map_some,if_pos (e.symm.trans h)]
   ·rw [QJ (p:=(p.1,y)) e,QJ e,ih]
  ·rw [if_neg h];by_cases e:p.1=j
   ·rw [QI (p:=p) e,QI e,Option.map_some,if_neg (fun z=>h (e.trans z))]
   ·rw [QJ (p:=p) e,QJ e,ih]
theorem Jm(k j:κ)(y:V):∀kvs:List (κ×V),Zl kvs k=none->Zl (kvs++[(k,y)]) j=if j=k then some y else Zl kvs j
 | [],_=>by
  by_cases e:k=j
  ·rw [if_pos e.symm];exact QI (p:=(k,y)) e
  ·rw [if_neg (fun z=>e z.symm)];exact QJ (p:=(k,y)) e
 | p::r,hn=>by
  rw [List.cons_append]
  have hk:¬p.1=k:=fun z=>by rw [QI z]at hn;cases hn
  rw [QJ hk]at hn;have ih:=Jm k j y r hn;by_cases e:p.1=j
  ·rw [QI e,QI e,if_neg (fun z=>hk (e.trans z))]
  ·rw [QJ e,QJ e,ih]
theorem Qaz(kvs:List (κ×V))(k j:κ)(y:V):Zl (ZS kvs k y) j=if j=k then some y else Zl kvs j:=by
 unfold ZS;by_cases a:(kvs.any fun kv=>decide (kv.1=k))=true
 ·rw [if_pos a,QaA];rw [ZE]at a;by_cases e:j=k
  ·obtain⟨x,hx⟩:=Option.isSome_iff_exists.mp a;rw [if_pos e,e,hx,Option.map_some,if_pos rfl]
  ·rw [if_neg e]
   cases Zl kvs j with
   | none=>rfl
   | some x=>rw [Option.map_some,if_neg e]
 ·rw [if_neg a];refine Jm k j y kvs ?_;rw [ZE]at a
  cases q:Zl kvs k with
  | none=>rfl
  | some x=>rw [q]at a;exact(a rfl).elim
theorem ZD(kvs:List (κ×V))(k:κ)(v:V):(ZS kvs k v).length<=kvs.length+1:=by
 unfold ZS;split
 ·rw [List.length_map];omega
 ·rw [List.length_append,List.length_cons,List.length_nil];omega
theorem RelO.isSome_eq{o:Option V}{u:Option Value}(r:RelO o u):o.isSome=u.isSome:=by
 cases o with
 | none=>cases u with
  | none=>rfl
  | some _=>exact(show False from r).elim
 | some _=>cases u with
  | none=>exact(show False from r).elim
  | some _=>rfl
theorem KV.val{kvs:List (κ×V)}{vs:List (κ×Value)}(r:KV kvs vs)(k:κ):RelO (Zl kvs k) (valueAt vs k):=by
 unfold KV at r
 induction r with
 | nil=>exact True.intro
 | @cons p q ps qs h t ih =>
  obtain⟨h1,h2⟩:=h;by_cases e:p.1=k
  ·have e':q.1=k:=h1.symm.trans e
   have b:valueAt (q::qs) k=some q.2:=by simp [valueAt,List.find?_cons,e']
   rw [QI e,b];exact h2
  ·have e':¬q.1=k:=fun z=>e (h1.trans z)
   have b:valueAt (q::qs) k=valueAt qs k:=by simp [valueAt,List.find?_cons,e']
   rw [QJ e,b];exact ih
theorem KV.any{kvs:List (κ×V)}{vs:List (κ×Value)}(r:KV kvs vs)(k:κ):(kvs.any fun kv=>decide (kv.1=k))=vs.any fun kv=>decide (kv.1=k):=by
 unfold KV at r
 induction r with
 | nil=>rfl
 | cons h t ih=>rw [List.any_cons,List.any_cons,ih,h.1]
theorem KV.repl{kvs:List (κ×V)}{vs:List (κ×Value)}(r:KV kvs vs)(k:κ){y:V}{u:Value}(ry:RelV y u):
  KV (kvs.map fun kv=>if kv.1=k then(kv.1,y)else kv) (vs.map fun kv=>if kv.1=k then(kv.1,u)else kv):=by
 unfold KV at r ⊢
 induction r with
 | nil=>exact .nil
 | @cons p q ps qs h t ih =>
  rw [List.map_cons,List.map_cons];refine .cons ?_ ih;obtain⟨h1,h2⟩:=h;by_cases e:p.1=k
  ·rw [if_pos e,if_pos (h1.symm.trans e)];exact⟨h1,ry⟩
  ·rw [if_neg e,if_neg (fun z=>e (h1.trans z))];exact⟨h1,h2⟩
theorem KV.put{kvs:List (κ×V)}{vs:List (κ×Value)}(r:KV kvs vs)(k:κ){y:V}{u:Value}(ry:RelV y u):KV (ZS kvs k y) (stored vs k u):=by
 unfold ZS stored;rw [r.any k];by_cases e:(vs.any fun kv=>decide (kv.1=k))=true
 ·rw [if_pos e,if_pos e];exact r.repl k ry
 ·rw [if_neg e,if_neg e];exact Paired.snoc r ⟨rfl,ry⟩
theorem KV.length{kvs:List (κ×V)}{vs:List (κ×Value)}(r:KV kvs vs):kvs.length=vs.length:=Paired.length r
end
theorem Y7{P:Program}{w:World}{k:Key}{u:Value}(r:RelV (kV k) u):(Qs P w).is k u=true:=by
 cases k with
 | inl i=>obtain⟨t,e⟩:=(show ∃t,u=Value.int i t from r);subst e;exact Qah P w i t
 | inr x=>obtain⟨t,e⟩:=(show ∃t,u=Value.str x t from r);subst e;exact Qag P w x t
theorem JB{P:Program}{w:World}:∀{ks:List Key} {us:List Value},Vals (ks.map kV) us->ItemsAre (Qs P w) ks us
 | [],_,r=>by rw [List.map_nil]at r;cases r;exact .nil
 | k::ks,_,r=>by
  rw [List.map_cons]at r
  cases r with
  | cons h t=>exact .cons (Y7 h) (JB t)
noncomputable abbrev KT(H:Hp):List (List Key×V)->List (List Key×Addr×Value)->Prop:=Paired fun p q=>p.1=q.1/\H q.2.1=some (.tup (p.1.map kV))/\RelV p.2 q.2.2
theorem KT.val{H:Hp}{kvs:List (List Key×V)}{xs:List (List Key×Addr×Value)}(r:KT H kvs xs)(k:List Key):RelO (Zl kvs k) ((atKey xs k).map (·.2)):=by
 induction r with
 | nil=>exact True.intro
 | @cons p q ps qs h t ih =>
  obtain⟨h1,_,h2⟩:=h;by_cases e:p.1=k
  ·have e':q.1=k:=h1.symm.trans e
   have b:atKey (q::qs) k=some q.2:=by simp [atKey,List.find?_cons,e']
   rw [QI e,b];exact h2
  ·have e':¬q.1=k:=fun z=>e (h1.trans z)
   have b:atKey (q::qs) k=atKey qs k:=by simp [atKey,List.find?_cons,e']
   rw [QJ e,b];exact ih
theorem KT.repl{H:Hp}{kvs:List (List Key×V)}{xs:List (List Key×Addr×Value)}(r:KT H kvs xs)(k:List Key){y:V}{u:Value}(ry:RelV y u):
  KT H (kvs.map fun kv=>if kv.1=k then(kv.1,y)else kv) (xs.map (putAt k u)):=by
 induction r with
 | nil=>exact .nil
 | @cons p q ps qs h t ih =>
  rw [List.map_cons,List.map_cons];refine .cons ?_ ih;obtain⟨h1,h2,h3⟩:=h;unfold putAt;by_cases e:p.1=k
  ·rw [if_pos e,if_pos (h1.symm.trans e)];exact⟨h1,h2,ry⟩
  ·rw [if_neg e,if_neg (fun z=>e (h1.trans z))];exact⟨h1,h2,h3⟩
theorem KT.put{H:Hp}{kvs:List (List Key×V)}{xs:List (List Key×Addr×Value)}(r:KT H kvs xs)(k:List Key){b:Addr}{y:V}{u:Value}(hb:H b=some (.tup (k.map kV)))(ry:RelV y u):
  KT H (ZS kvs k y) (storedH xs k b u):=by
 have e:(kvs.any fun kv=>decide (kv.1=k))=(atKey xs k).isSome:=by
  rw [ZE,(r.val k).isSome_eq,Option.isSome_map]
 unfold ZS storedH;rw [e];by_cases q:(atKey xs k).isSome=true
 ·rw [if_pos q,if_pos q];exact r.repl k ry
 ·rw [if_neg q,if_neg q];exact Paired.snoc r ⟨rfl,hb,ry⟩
theorem KT.keeps{H H':Hp}{kvs:List (List Key×V)}{xs:List (List Key×Addr×Value)}(r:KT H kvs xs)(ht:∀b ys,H b=some (.tup ys)->H' b=some (.tup ys)):KT H' kvs xs :=
 Paired.mapP r fun _ _ z=>⟨z.1,ht _ _ z.2.1,z.2.2⟩
section
variable {P:Program}{w:World}{H:Hp}{h:Heap}{a:Addr}
theorem QhZ{u:HO}(ok:HOk P w H h)(e:Rd H a u):ObjOk P w H h a u:=e.ok ok
theorem QcD{kvs:List (Key×V)}(ok:HOk P w H h)(e:Rd H a (.dK kvs)):kvs.length<=sizeLine/\(a==sysModules)=false/\∃vs,KV kvs vs/\h.DictOf (Qs P w) a vs :=
 show ObjOk P w H h a (.dK kvs)from QhZ ok e
theorem QeR{kvs:List (Key×V)}(ok:HOk P w H h)(e:H a=some (.dK kvs)):kvs.length<=sizeLine/\(a==sysModules)=false/\∃vs,KV kvs vs/\h.DictOf (Qs P w) a vs:=QcD ok (.inl e)
theorem Yo{ks:List Key}(ok:HOk P w H h)(e:H a=some (.tup (ks.map kV))):(tupleKind (Qs P w)).is h ks a:=by
 obtain⟨_,its,r,o,h1,h2,n,h3⟩:=(show ObjOk P w H h a (.tup (ks.map kV))from ok a _ e)
 exact⟨o,its.toArray,n,h1,h2,h3,by simpa using JB r⟩
theorem QcC{kvs:List (List Key×V)}(ok:HOk P w H h)(e:Rd H a (.dT kvs)):kvs.length<=sizeLine/\(a==sysModules)=false /\
  ∃xs,KT H kvs xs/\h.DictOfH (tupleKind (Qs P w)) a xs:=by
 obtain⟨z,y,xs,r,o,es,ep,h1,h2,h3,h4,h5⟩:=(show ObjOk P w H h a (.dT kvs)from QhZ ok e);refine⟨z,y,xs,r,o,es,ep,h1,h2,h3,h4,fun x hx=>?_,h5⟩
 have all:∀{l:List (List Key×V)} {m:List (List Key×Addr×Value)},KT H l m->∀x∈m,(tupleKind (Qs P w)).is h x.1 x.2.1:=by
  intro l m q
  induction q with
  | nil=>intro x hx;exact nomatch hx
  | @cons p q ps qs hq t ih =>
   intro x hx
   rcases List.mem_cons.mp hx with e | hx
   ·subst e
    exact Yo ok (by rw [<-hq.1];exact hq.2.1)
   ·exact ih x hx
 exact all r x hx
theorem QkA{kvs:List (List Key×V)}(ok:HOk P w H h)(e:H a=some (.dT kvs)):kvs.length<=sizeLine/\(a==sysModules)=false /\
  ∃xs,KT H kvs xs/\h.DictOfH (tupleKind (Qs P w)) a xs:=QcC ok (.inl e)
end
noncomputable def DGet(H:Hp)(a:Addr)(y:V)(r:Option V):Prop :=
 (∃kvs k,Rd H a (.dK kvs)/\y=kV k/\r=Zl kvs k)\/∃kvs k b,Rd H a (.dT kvs)/\y=.ref b/\H b=some (.tup (k.map kV))/\r=Zl kvs k
noncomputable def DPut(H:Hp)(a:Addr)(y v:V)(H':Hp):Prop :=
 (∃kvs k,H a=some (.dK kvs)/\y=kV k/\kvs.length<sizeLine/\H'=upd H a (.dK (ZS kvs k v))) \/
 ∃kvs k b,H a=some (.dT kvs)/\y=.ref b/\H b=some (.tup (k.map kV))/\kvs.length<sizeLine/\H'=upd H a (.dT (ZS kvs k v))
theorem DGet.k{H:Hp}{a:Addr}{kvs:List (Key×V)}{k:Key}(e:H a=some (.dK kvs)):DGet H a (kV k) (Zl kvs k):=.inl ⟨kvs,k,.inl e,rfl,rfl⟩
theorem DGet.t{H:Hp}{a b:Addr}{kvs:List (List Key×V)}{k:List Key}(e:H a=some (.dT kvs))(eb:H b=some (.tup (k.map kV))):DGet H a (.ref b) (Zl kvs k):=.inr ⟨kvs,k,b,.inl e,rfl,eb,rfl⟩
theorem DPut.k{H:Hp}{a:Addr}{kvs:List (Key×V)}{k:Key}{v:V}(e:H a=some (.dK kvs))(hl:kvs.length<sizeLine):DPut H a (kV k) v (upd H a (.dK (ZS kvs k v))):=.inl ⟨kvs,k,e,rfl,hl,rfl⟩
theorem DPut.t{H:Hp}{a b:Addr}{kvs:List (List Key×V)}{k:List Key}{v:V}(e:H a=some (.dT kvs))(eb:H b=some (.tup (k.map kV)))(hl:kvs.length<sizeLine):
  DPut H a (.ref b) v (upd H a (.dT (ZS kvs k v))):=.inr ⟨kvs,k,b,e,rfl,eb,hl,rfl⟩
section
variable {X:Cx}{pins:List (Addr×Obj)}{σ:St}{H:Hp}{s:Shared}{a:Addr}{y v:V}{u r:Value}{o:Option V}{A:Around}{E:Value->Shared->Prop}
theorem Inv.big(I:Inv X pins σ H s):sysModules<s.heap.objs.size:=by
 have h:mainGlobals<s.heap.objs.size:=(I.mod.glob.keeps I.bk).lt
 exact Nat.lt_trans (by decide) h
theorem JI{Q:Value->Shared->Prop}(hu:A.units+1<cLine)(I:Inv X pins σ H s)(g:DGet H a y (some v))(ry:RelV y u)(h:∀w' s',Inv X pins σ H s'->RelV v w'->Q w' s'):
  wpAny (model X.prog X.w) A (getItem (.ref a) u) Q E s:=by
 rcases g with⟨kvs,k,e,ey,l⟩ | ⟨kvs,k,b,e,ey,eb,l⟩
 ·subst ey;obtain⟨z,hd,vs,rel,dd⟩:=QcD I.hok e
  obtain⟨w',hw,rw'⟩:=RelO.some_of (v:=v) (o:=valueAt vs k) (by rw [l];exact rel.val k)
  exact wpAny_getItem_of (Y7 ry) dd.mapOf hw (h w' _ (I.tok _) rw')
 ·subst ey;cases(show u=Value.ref b from ry);obtain⟨z,hd,xs,rel,dd⟩:=QcC I.hok e
  obtain⟨w',hw,rw'⟩:=RelO.some_of (v:=v) (o:=(atKey xs k).map (·.2)) (by rw [l];exact rel.val k)
  obtain⟨p,hp,hp2⟩:=Option.map_eq_some_iff.mp hw;refine wpAny_getItem_heap (tupleKind_room_in1 hu) (Yo I.hok eb) dd hp ?_;rw [hp2];exact h w' _ (I.tok _) rw'
theorem Qnx{Q:Value->Shared->Prop}(hu:A.units+1<cLine)(I:Inv X pins σ H s)(g:DGet H a y o)(ry:RelV y u)(h:∀s',Inv X pins σ H s'->Q (.bool o.isSome) s'):
  wpAny (model X.prog X.w) A (compareOp .In u (.ref a)) Q E s:=by
 rcases g with⟨kvs,k,e,ey,l⟩ | ⟨kvs,k,b,e,ey,eb,l⟩
 ·subst ey;obtain⟨z,hd,vs,rel,dd⟩:=QcD I.hok e;refine wpAny_in_of (Y7 ry) hd dd.mapOf ?_;rw [<-(rel.val k).isSome_eq,<-l];exact h _ (I.tok _)
 ·subst ey;cases(show u=Value.ref b from ry);obtain⟨z,hd,xs,rel,dd⟩:=QcC I.hok e;refine wpAny_in_heap (tupleKind_room_in1 hu) (Yo I.hok eb) hd dd ?_;have q:=(rel.val k).isSome_eq;rw [Option.isSome_map]at q;rw [<-q,<-l];exact h _ (I.tok _)
theorem Qg3{Q:Value->Shared->Prop}(hu:A.units+1<cLine)(I:Inv X pins σ H s)(g:DGet H a y o)(ry:RelV y u)(h:∀s',Inv X pins σ H s'->Q (.bool (!o.isSome)) s'):
  wpAny (model X.prog X.w) A (compareOp .NotIn u (.ref a)) Q E s:=by
 rcases g with⟨kvs,k,e,ey,l⟩ | ⟨kvs,k,b,e,ey,eb,l⟩
 ·subst ey;obtain⟨z,hd,vs,rel,dd⟩:=QcD I.hok e;refine wpAny_notIn_of (Y7 ry) hd dd.mapOf ?_;rw [<-(rel.val k).isSome_eq,<-l];exact h _ (I.tok _)
 ·subst ey;cases(show u=Value.ref b from ry);obtain⟨z,hd,xs,rel,dd⟩:=QcC I.hok e;refine wpAny_notIn_heap (tupleKind_room_in1 hu) (Yo I.hok eb) hd dd ?_;have q:=(rel.val k).isSome_eq;rw [Option.isSome_map]at q;rw [<-q,<-l];exact h _ (I.tok _)
theorem Qar{h':Heap}{t':Nat}{ob:HO}(I:Inv X pins σ H s)(mu:Mut (H a))(hs:Heap.SameBut a s.heap h')(he:∃q,h'.get? a=some q)(new:ObjOk X.prog X.w (upd H a ob) h' a ob):
  Inv X pins σ (upd H a ob) { s with heap:=h',toks:=t' }:=
 I.write (x:=a) (e:=a) mu (.inl rfl) (fun b q hb z=>(hs.2 b hb).trans z) he new
theorem Qfr{P:Program}{w:World}{H':Hp}{h':Heap}{kvs:List (Key×V)}{vs:List (Key×Value)}(z:kvs.length<=sizeLine)(hd:(a==sysModules)=false)(rel:KV kvs vs)(dd:h'.DictOf (Qs P w) a vs):
  ObjOk P w H' h' a (.dK kvs):=⟨z,hd,vs,rel,dd⟩
theorem QcI{H':Hp}{Q:Unit->Shared->Prop}(hu:A.units+1<cLine)(I:Inv X pins σ H s)(g:DPut H a y v H')(ry:RelV y u)(rv:RelV v r)(h:∀s',Inv X pins σ H' s'->Q () s'):
  wpAny (model X.prog X.w) A (setItem (.ref a) u r) Q E s:=by
 rcases g with⟨kvs,k,e,ey,l,eH⟩ | ⟨kvs,k,b,e,ey,eb,l,eH⟩
 ·subst ey eH;obtain⟨z,hd,vs,rel,dd⟩:=QeR I.hok e
  have hz:vs.length<=sizeLine:=by rw [<-rel.length];exact z
  have hl:(ZS kvs k v).length<=sizeLine:=by have:=ZD kvs k v;omega
  refine wpAny_setItem_pairs (hsz:=hz) (Y7 ry) dd fun h' dd' hs=>h _ ?_;have he:∃q,h'.get? a=some q:=let ⟨q,_,_,hq,_⟩:=dd';⟨q,hq⟩
  exact Qar I (by rw [e];exact True.intro) hs he (Qfr hl hd (rel.put k rv) dd')
 ·subst ey eH;cases(show u=Value.ref b from ry);obtain⟨z,hd,xs,rel,dd⟩:=QkA I.hok e
  have hz:xs.length<=sizeLine:=by rw [<-Paired.length rel];exact z
  have hl:(ZS kvs k v).length<=sizeLine:=by have:=ZD kvs k v;omega
  refine wpAny_setItem_heap (hsz:=hz) (tupleKind_room_in1 hu) (Yo I.hok eb) dd fun h' dd' hs=>h _ ?_;obtain⟨q,es,ep,hq,h2,h3,h4,_,h5⟩:=dd'
  refine Qar I (by rw [e];exact True.intro) hs ⟨q,hq⟩ ⟨hl,hd,_,(rel.put k eb rv).keeps fun c ys ec=>?_,q,es,ep,hq,h2,h3,h4,h5⟩
  rw [Qe (Qko ec e (fun z=>nomatch z))];exact ec
end
section
variable {X:Cx}{pins:List (Addr×Obj)}{σ:St}{H:Hp}{s:Shared}{a:Addr}{kvs:List (Key×V)}{k:Key}{u:Value}{A:Around}{E:Value->Shared->Prop}
end
noncomputable def Ql6(i:Expr):Prop:=∀ov iv,subscripted i false ov iv=operate [ov,iv] (getItem ov iv)
theorem QbC{prog:Program}{w:World}{A:Around}{E:Value->Shared->Prop}{s:Shared}{env:Env}{value slice:Expr}{pos:Pos}{T id:String}{Q:Value->Shared->Prop}
  (hl:typeLookup (.type T) "__getitem__"=pure (some (.builtin id))) (hs:Ql6 slice)
  (h:wpAny (model prog w) A (eval value env) (fun o s₁=>wpAny (model prog w) A (eval slice env) (fun i s₂=>s₂.TypeIs o T/\wpAny (model prog w) A (getItem o i) Q E s₂) E s₁) E s):
  wpAny (model prog w) A (eval (.Subscript value slice pos) env) Q E s:=by
 refine Subscript_ (wpAny_mono h (fun o s₁ h₁=>wpAny_mono h₁ (fun i s₂ h₂=>?_) fun _ _ x=>x) fun _ _ x=>x);obtain⟨hT,h₂⟩:=h₂;unfold subscriptTail;refine wpAny_bind ?_;rw [getitemInPython_of_ne hT.not_modules];refine wpAny_bind (wpAny_specialOf hT hl ?_)
 have fin:wpAny (model prog w) A (subscripted slice false o i) (fun r s₃=>wpAny (model prog w) A (letTemporaryGo value o r >>= fun _=>pure r) Q E s₃) E s₂:=by
  rw [hs o i];exact wpAny_operating (wpAny_mono h₂ (fun r s₃ h₃=>wpAny_bind (wpAny_letTemporaryGo (wpAny_pure h₃))) fun _ _ x=>x)
 first
  | exact wpAny_pure (wpAny_bind fin)
  | exact wpAny_bind (wpAny_pure (wpAny_bind fin))
  | exact wpAny_bind fin
theorem Ys{X:Cx}{pins:List (Addr×Obj)}{σ:St}{H:Hp}{s:Shared}{a:Addr}{y:V}{o:Option V}(I:Inv X pins σ H s)(g:DGet H a y o):s.TypeIs (.ref a) "dict":=by
 rcases g with⟨kvs,k,e,_,_⟩ | ⟨kvs,k,b,e,_,_,_⟩
 ·obtain⟨_,_,vs,_,dd⟩:=QcD I.hok e;exact dd.typeIs
 ·obtain⟨_,_,xs,_,dd⟩:=QcC I.hok e;exact dd.typeIs
noncomputable def QjM(td ty:TE):TE:=fun σ H Q=>td σ H fun x H1=>ty σ H1 fun y H2=>∃a v,x=.ref a/\DGet H2 a y (some v)/\Q v H2
section
variable {X:Cx}{o i e value:Expr}{pos pos' tpos:Pos}{td ty tv:TE}
theorem Qgf(hu:X.A.units+1<cLine)(ho:PE X o td)(hi:PE X i ty)(hs:Ql6 i):PE X (.Subscript o i pos) (QjM td ty):=by
 intro pins s σ H Q I h;refine QbC PySem.F.slot_dict_getitem.lookup hs (thn (ho pins s σ H _ I h) fun u s1 ⟨x,H1,I1,rx,q1⟩=>thn (hi pins s1 σ H1 _ I1 q1) fun iv s2 ⟨y,H2,I2,ry,a,v,ex,g,q2⟩=>?_);subst ex;obtain rfl:u=Value.ref a:=rx;exact⟨Ys I2 g,JI hu I2 g ry fun w' s3 I3 rw'=>⟨v,H2,I3,rw',q2⟩⟩
end
theorem Qa1{P:Program}{w:World}{H:Hp}(h:Heap)(hb:sysModules<h.objs.size):ObjOk P w H (h.push { cls:=.type "dict",data:=.dict #[] }) h.objs.size (.dK []):=
 ⟨Nat.zero_le _,beq_eq_false_iff_ne.mpr (Ne.symm (Nat.ne_of_lt hb)),[],.nil,Heap.DictOf.new h⟩
theorem QeP{P:Program}{w:World}{H:Hp}(h:Heap)(hb:sysModules<h.objs.size):ObjOk P w H (h.push { cls:=.type "dict",data:=.dict #[] }) h.objs.size (.dT []):=
 ⟨Nat.zero_le _,beq_eq_false_iff_ne.mpr (Ne.symm (Nat.ne_of_lt hb)),[],.nil,_,#[],0,Heap.get?_push_size _ rfl,⟨rfl,rfl,rfl⟩,rfl,rfl,List.nodup_nil⟩
noncomputable def QhA:TE:=fun _ H Q=>∀p,H p=none->Q (.ref p) (upd H p (.dK []))
noncomputable def Qhz:TE:=fun _ H Q=>∀p,H p=none->Q (.ref p) (upd H p (.dT []))
section
variable {X:Cx}{pos:Pos}
theorem Qei:PE X (.Dict [] [] pos) QhA:=fun pins s σ H Q I h =>
 wpAny_Dict_empty ⟨.ref s.heap.objs.size,_,I.laid (a:=s.heap.objs.size) (o:=.dK []) (t':=s.toks) (fun _ _ q=>Heap.get?_push_of_some _ q) (Nat.le_refl _) (Qa1 s.heap I.big),rfl,h _ (I.hok.fresh (Nat.le_refl _))⟩
theorem Qeh:PE X (.Dict [] [] pos) Qhz:=fun pins s σ H Q I h =>
 wpAny_Dict_empty ⟨.ref s.heap.objs.size,_,I.laid (a:=s.heap.objs.size) (o:=.dT []) (t':=s.toks) (fun _ _ q=>Heap.get?_push_of_some _ q) (Nat.le_refl _) (QeP s.heap I.big),rfl,h _ (I.hok.fresh (Nat.le_refl _))⟩
end
noncomputable def YG:List (TE×TE)->St->Hp->(List (V×V)->Hp->Prop)->Prop
 | [],_,H,Q=>Q [] H
 | (tk,tv)::r,σ,H,Q=>tk σ H fun x H1=>tv σ H1 fun y H2=>YG r σ H2 fun ps H3=>Q ((x,y)::ps) H3
noncomputable abbrev VV:List (V×V)->List (Value×Value)->Prop:=Paired fun p q=>RelV p.1 q.1/\RelV p.2 q.2
noncomputable def PPs(X:Cx)(pos:Pos)(keys:List (Option Expr))(values:List Expr)(trs:List (TE×TE)):Prop :=
 ∀(pins:List (Addr×Obj)) (s:Shared) (σ:St) (H:Hp) (Q:List (V×V)->Hp->Prop),Inv X pins σ H s->YG trs σ H Q ->
  wpAny (model X.prog X.w) X.A (evalPairs (pairTrees keys values X.env pos)) (fun vs s'=>∃ps H',Inv X pins σ H' s'/\VV ps vs/\Q ps H') X.xe s
theorem QbQ{X:Cx}{pos:Pos}:PPs X pos [] [] []:=fun pins s σ H Q I h=>pairTrees_nil_walk ⟨[],H,I,.nil,h⟩
theorem QaK{X:Cx}{pos:Pos}{k v:Expr}{ks:List (Option Expr)}{vs:List Expr}{tk tv:TE}{trs:List (TE×TE)}(hk:PE X k tk)(hv:PE X v tv)(hr:PPs X pos ks vs trs):
  PPs X pos (some k::ks) (v::vs) ((tk,tv)::trs):=fun pins s σ H Q I h =>
 pairTrees_cons_walk (thn (hk pins s σ H _ I h) fun u s1 ⟨x,H1,I1,rx,q1⟩=>thn (hv pins s1 σ H1 _ I1 q1) fun w2 s2 ⟨y,H2,I2,ry,q2⟩=>
  thn (hr pins s2 σ H2 _ I2 q2) fun ws s3 ⟨ps,H3,I3,rel,q3⟩=>⟨(x,y)::ps,H3,I3,.cons ⟨rx,ry⟩ rel,q3⟩)
noncomputable def Zt(kvs more:List (Key×V)):List (Key×V):=more.foldl (fun acc kv=>ZS acc kv.1 kv.2) kvs
theorem KV.merge:∀{more:List (Key×V)} {rs:List (Key×Value)} {kvs:List (Key×V)} {vs:List (Key×Value)},KV more rs->KV kvs vs->KV (Zt kvs more) (merged vs rs):=by
 intro more rs kvs vs r;unfold KV at r
 induction r generalizing kvs vs with
 | nil=>intro q;exact q
 | @cons p q ps qs h t ih =>
  intro r0
  have e:KV (ZS kvs p.1 p.2) (stored vs q.1 q.2):=by
   have:=r0.put p.1 h.2;rw [<-h.1];exact this
  exact ih e
theorem ZL:∀(more kvs:List (Key×V)),(Zt kvs more).length<=kvs.length+more.length
 | [],kvs=>by show kvs.length<=kvs.length+0;omega
 | p::r,kvs=>by
  have h1:=ZL r (ZS kvs p.1 p.2);have h2:=ZD kvs p.1 p.2;show(Zt (ZS kvs p.1 p.2) r).length<=_;rw [List.length_cons];omega
theorem YU{P:Program}{w:World}:∀{kvs:List (Key×V)} {ws:List (Value×Value)},VV (kvs.map fun kv=>(kV kv.1,kv.2)) ws->∃rs,Carries (Qs P w) ws rs/\KV kvs rs
 | [],_,r=>by rw [List.map_nil]at r;cases r;exact⟨[],True.intro,.nil⟩
 | p::kvs,_,r=>by
  rw [List.map_cons]at r
  cases r with
  | @cons a b as bs h t =>
   obtain⟨rs,c,q⟩:=YU (P:=P) (w:=w) t;obtain⟨b1,b2⟩:=b;exact⟨(p.1,b2)::rs,⟨Y7 h.1,rfl,c⟩,.cons ⟨rfl,h.2⟩ q⟩
noncomputable def QjL(trs:List (TE×TE)):TE:=fun σ H Q=>∀p,H p=none->YG trs σ (upd H p (.dK [])) fun ps H2=>H2 p=some (.dK [])/\∃kvs:List (Key×V),ps=kvs.map (fun kv=>(kV kv.1,kv.2))/\kvs.length<=15/\Q (.ref p) (upd H2 p (.dK (Zt [] kvs)))
theorem QbY{X:Cx}{pos:Pos}{keys:List (Option Expr)}{values:List Expr}{trs:List (TE×TE)}(h:PPs X pos keys values trs)(hall:keys.all (·.isSome)=true)(hl:keys.length=values.length)(h0:keys≠[])
  (h15:keys.length<=15):PE X (.Dict keys values pos) (QjL trs):=by
 intro pins s σ H Q I q;have hn:=I.hok.fresh (Nat.le_refl s.heap.objs.size);have I1:=I.laid (a:=s.heap.objs.size) (o:=.dK []) (h':=s.heap.push { cls:=.type "dict",data:=.dict #[] }) (t':=s.toks) (fun _ _ q=>Heap.get?_push_of_some _ q) (Nat.le_refl _) (Qa1 s.heap I.big);refine wpAny_Dict_walk (knd:=Qs X.prog X.w) hall hl h0 h15 (thn (h pins _ σ _ _ I1 (q _ hn)) fun ws s2 ⟨ps,H2,I2,rel,e,kvs,ep,lk,q2⟩=>?_);subst ep;obtain⟨rs,c,rk⟩:=YU (P:=X.prog) (w:=X.w) rel;obtain⟨z,hd,vs0,r0,dd⟩:=QeR I2.hok e;cases r0;refine⟨rs,c,dd,fun h' dd' hs=>⟨.ref s.heap.objs.size,_,?_,rfl,q2⟩⟩
 have hz:(Zt [] kvs).length<=sizeLine:=by
  have h1:=ZL kvs [];rw [List.length_nil]at h1;rw [sizeLine_eq];omega
 have he:∃q,h'.get? s.heap.objs.size=some q:=let ⟨q,_,_,hq,_⟩:=dd';⟨q,hq⟩
 exact Qar I2 (by rw [e];exact True.intro) hs he (Qfr hz hd (rk.merge .nil) dd')
section
variable {X:Cx}{pins:List (Addr×Obj)}{σ:St}{H:Hp}{s:Shared}{a:Addr}{y d:V}{u r:Value}{o:Option V}{A:Around}{E:Value->Shared->Prop}
end
section
variable {X:Cx}{o e f:Expr}{apos cpos:Pos}{td ty tx:TE}
end
section
variable {X:Cx}{pins:List (Addr×Obj)}{σ:St}{H:Hp}{s:Shared}{a:Addr}{kvs:List (Key×V)}{A:Around}{E:Value->Shared->Prop}
end
section
variable {X:Cx}{pins:List (Addr×Obj)}{σ:St}{H:Hp}{s:Shared}{a:Addr}{y:V}{u:Value}{A:Around}{E:Value->Shared->Prop}
end
end L2
namespace Att
open PySem PySem.W PySem.Calls PyProof.Rows
theorem Yr{P:Params}{h:Heap}:∀(ns:List Int) (vs:List Value),WellAll P h vs (ns.map WData.int)->IntsAre vs ns:=by
 intro ns
 induction ns with
 | nil =>
  intro vs w;rw [List.map_nil]at w;cases w;exact .nil
 | cons n ns ih =>
  intro vs w;rw [List.map_cons]at w
  cases w with
  | cons a b =>
   cases a;exact .cons _ _ (ih _ b)
theorem QbI{l:OpenLaw}{n:Nat}(hn:l.most=some n){P:Params}{h:Heap}{args:List WData}{vals:List Value}
  (hpre:l.row.toRowW.claim.pre args=true) (hwl:WellAll P h vals args):
  ∃ a vs ns, vals = [Value.ref a] /\ args = [WData.list (ns.map WData.int)] /\ h.get? a = some { cls := .type "list", data := .seq vs.toArray } /\ IntsAre vs ns /\ ns.length <= n := by
 have hsh:WShape.hasAll [] args [.list .int]=true:=(pre_splitW hpre).1;have hc:l.pre.holds [] { args:=args }=true:=(pre_splitW hpre).2;obtain⟨d,r,rfl,h1,h2⟩:=hasAllW_cons hsh;obtain rfl:=hasAllW_nil h2;obtain⟨xs,rfl,h3⟩:=hasW_list h1;obtain⟨ns,rfl⟩:=items_int h3
 have hlen:ns.length<=n:=by
  unfold OpenLaw.pre at hc
  have h4:(WTm.not (.lt (.lit (.int (n:Int))) (.len (.arg 0)))).holds [] { args:=[.list (ns.map .int)] }=true:=by
   have h4:=(holds_andW hc).1;rw [hn]at h4;exact h4
  have h5:=condW_of h4 (w_not (w_lt w_lit (w_len_list (w_arg rfl))));rw [List.length_map]at h5;refine Nat.le_of_not_lt fun q=>?_
  have q':(n:Int) < ((ns.length:Nat):Int):=by omega
  first
   | (rw [decide_eq_true q']at h5;exact absurd h5 (by decide))
   | (simp at h5;omega)
 cases hwl with
 | cons w1 w2 =>
  cases w2
  cases w1 with
  | list ho hall=>exact⟨_,_,ns,rfl,rfl,ho,Yr ns _ hall,hlen⟩
theorem QbR(l:OpenLaw)(args:List WData):l.row.toRowW.claim.post args (.bool true) args=true :=
 postW_of (r:=l.row.toRowW) (X:=(true==true))
  (show WShape.has [] (.bool true) .bool=true by first | rfl | decide | simp [WShape.has,WShape.arms,WShape.armsAll])
  (show(WTm.eq .res (.lit (.bool true))).value [] { args:=args,res:=some (.bool true),after:=args }=some (.bool (true==true))from w_eq_bool (w_res rfl) w_lit) rfl
theorem attach_call{l:OpenLaw}{n:Nat}{q:Program}{loose:List Str}{XP:(Str->Option Value)->Heap->Prop}{YP:World->Heap->Prop}{d:DefRec}
  (hn:l.most=some n) (hdf:d.params.defaults=[])
  (call:∀(w:World) (s₀ s₁:Shared) (mg mb:Str->Option Value) (fa:Addr) (o:Obj) (pm cd doc:Value) (a:Addr) (vs:List Value) (ns:List Int),
   Ground q loose [] XP w s₀ mg mb s₁.heap->YP w s₁.heap ->
   s₁.heap.get? fa=some o->o.data=.func (docDef d.name d.params d.body d.scope pm cd doc)->s₁.heap.CodeRec cd d.name->mg d.name=some (.ref fa) ->
   s₁.heap.get? a=some { cls:=.type "list",data:=.seq vs.toArray }->IntsAre vs ns->ns.length<=n->s₁.gens=#[] ->
   codeAny (model l.prog w) callerA (.call (.ref fa) ⟨[.ref a],[]⟩) (fun r s'=>r=.ok (.ret (.bool true))/\OldK s₁.heap s'.heap/\s'.os=s₁.os/\AllBare s'.gens) s₁):
  WalkO q loose XP YP l.row.toRowW d [] (fun f vs=>PySem.call f vs):=by
 intro w s₀ s₁ mg mb G Y fa o pm cd doc dV kV ho hd hcd hD hmg hg args vals as hpre hlay hrd hwl hlo;obtain rfl:dV=.none:=Dflts.none hD hdf;obtain rfl:kV=.none:=Dflts.noKw hD;obtain⟨a,vs,ns,rfl,rfl,hobj,hints,hlen⟩:=QbI hn hpre hwl;refine enter_call (codeAny_mono (call w s₀ s₁ mg mb fa o pm cd doc a vs ns G Y ho (fd_plain hd) hcd hmg hobj hints hlen hg) fun r s' hq=>?_);obtain⟨rfl,h2,h3,h4⟩:=hq;exact⟨.inl ⟨.bool true,.bool true,[],rfl,fun _=>rfl,.bool true,QbR l _,fun _=>⟨List.Pairwise.nil,fun _ hm=>(nomatch hm)⟩⟩,h2,h3,h4⟩
section
variable {prog:Program}{w:World}{A:Around}{E:Value->Shared->Prop}{s:Shared}{K:Frag}
end
end Att
namespace L2
open PySem PySem.Spec PyProof.Rows
theorem Jk:∀{vs:List Value} {ns:List Int},IntsAre vs ns->Vals (ns.map V.int) vs
 | _,_,.nil=>.nil
 | _,_,.cons n t h=>.cons ⟨t,rfl⟩ (Jk h)
noncomputable def Qjy(H:Hp):Prop:=∀b,H b=none\/∃o xs,H b=some (.frz o (.lst xs))
theorem Qew{P:Program}{w:World}{K:PySem.W.Frag}{mg mb:Str->Option Value}{CX:CXT}{k:Nat}{fa a:Addr}{fd:FuncData}{x:Str}{sp:Sp}{s₁:Shared}{vs:List Value}{ns:List Int}
  (KX:K.In s₁.heap) (hns:s₁.heap.Ns mainGlobals mg) (hb:s₁.heap.Ns builtinsNs mb) (hbb:∀x:Str,x≠"__name__"->mb x=bootBuiltins x) (hlim:s₁.heap.NoLimit) (hg:s₁.gens=#[])
  (ha:s₁.heap.get? a=some { cls:=.type "list",data:=.seq vs.toArray }) (hi:IntsAre vs ns) (hl:ns.length<=sizeLine) (hr:Room k callerA)
  (F:∀base:Heap,K.In base->base.Ns mainGlobals mg->FnOk P w K mg base CX k fa fd [x] sp) (hbind:∀(s:Shared) (u:Value),BindsTo s fd ⟨[u],[]⟩ [(x,u)])
  (hsp:∀H:Hp,Qjy H->SqL K H a (ns.map V.int)->sp [.ref a] H (fun v _=>v=.bl true) fun _ _ _=>False)
  (hCX:∀H e s',CX [] H s₁ (fun _ _ _=>False) e s'->False):
  codeAny (model P w) callerA (.call (.ref fa) ⟨[.ref a],[]⟩) (fun r s'=>r=.ok (.ret (.bool true))/\OldK s₁.heap s'.heap/\s'.os=s₁.os/\AllBare s'.gens) s₁:=by
 have rv:=Jk hi;have lenV:=hi.length
 -- from an abstract heap in which nothing but the script may be tracked
 have core:∀H:Hp,Qjy H->SqL K H a (ns.map V.int)->HOk P w H s₁.heap->(∀b,H b≠none->b=a)->(H a≠none->K.lookup a=none) ->
   codeAny (model P w) callerA (.call (.ref fa) ⟨[.ref a],[]⟩) (fun r s'=>r=.ok (.ret (.bool true))/\OldK s₁.heap s'.heap/\s'.os=s₁.os/\AllBare s'.gens) s₁:=by
  intro H hO hS hok hA hK;have base_of:∀{b:Addr} {o:Obj},s₁.heap.get? b=some o->H b=none->(QeE s₁.heap H).get? b=some o:=fun e n=>QeD e n
  have noA:∀{b:Addr} {o:Obj} {es:Array DictEntry} {ep:Nat},s₁.heap.get? b=some o->o.data=.dict es ep->H b=none:=fun {b o es ep} e d=>by
   cases q:H b with
   | none=>rfl
   | some u =>
    have e':b=a:=hA b (by rw [q];simp)
    subst e';rw [ha]at e;cases e;have d':Data.seq vs.toArray _=Data.dict es ep:=d;cases d'
  have nsK:∀{b:Addr} {m:Str->Option Value},s₁.heap.Ns b m->(QeE s₁.heap H).Ns b m:=fun {b m} ⟨o,es,ep,e,d,r⟩=>⟨o,es,ep,base_of e (noA e d),d,r⟩
  have hKb:K.In (QeE s₁.heap H):=fun b o e=>base_of (KX b o e) (by
   cases q:H b with
   | none=>rfl
   | some u =>
    have e':b=a:=hA b (by rw [q];simp)
    subst e'
    rw [hK (by rw [q];simp)]at e;cases e)
  have hM:Mod K mg (QeE s₁.heap H):=⟨hKb,nsK hns,⟨mb,nsK hb,hbb⟩,let ⟨mc,h1,h2⟩:=hlim;⟨mc,nsK h1,h2⟩⟩
  have e0:Env0 P w K mg (QeE s₁.heap H) callerA [] s₁ H:=⟨rfl,hM,fun b o e=>Qgr e,Nat.le_of_eq (Qcp _ _),trivial,fun b hb=>absurd (show b∈([]:List Addr)from hb) (by simp),hok,.of_eq hg⟩
  refine codeAny_mono ((F _ hKb (nsK hns)).run callerA [] s₁ H ⟨[.ref a],[]⟩ [.ref a] [.ref a] _ _ hr e0 (hbind s₁ (.ref a)) (.cons rfl .nil) (hsp H hO hS)) fun r s' h=>?_
  cases r with
  | error e=>exact(hCX H e s' h).elim
  | ok fl =>
   cases fl with
   | next=>exact False.elim h
   | brk=>exact False.elim h
   | cont=>exact False.elim h
   | ret u =>
    obtain⟨v,H',os,bare,un,hok',r',q⟩:=h;have q':v=.bl true:=q;subst q';obtain rfl:u=Value.bool true:=r';refine⟨rfl,OldK.of_keep fun b o e=>?_,os,bare⟩
    cases q:H b with
    | none=>exact un.keep b o e q (by intro z;exact absurd (show b∈([]:List Addr)from z) (by simp)) (by simp)
    | some u =>
     rcases hO b with z | ⟨ob,xs,z⟩
     ·rw [q]at z;cases z
     ·have z2:=un.frzs b ob _ z;obtain⟨e1,_⟩:=hok b _ z;obtain⟨e2,_⟩:=hok' b _ z2;rw [e]at e1;cases e1;exact e2
 cases hk:K.lookup a with
 | some o =>
  -- the script is one of the module's own objects
  have e:=KX a o hk;rw [ha]at e;cases e
  refine core (fun _=>none) (fun _=>.inl rfl) (.inr ⟨_,vs.toArray,_,hk,rfl,rfl,rfl,by rw [List.size_toArray,lenV];exact hl,by simpa using rv⟩) (fun b u z=>by have z':(none:Option HO)=some u:=z;cases z') (fun b z=>absurd rfl z) fun z=>absurd rfl z
 | none =>
  refine core (fun b=>if b=a then some (.frz { cls:=.type "list",data:=.seq vs.toArray } (.lst (ns.map V.int)))else none) (fun b=>?_) (.inl (.inr ⟨{ cls:=.type "list",data:=.seq vs.toArray },if_pos rfl⟩)) (fun b u z=>?_) (fun b z=>?_) fun _=>hk
  ·by_cases hb:b=a
   ·exact .inr ⟨_,_,if_pos hb⟩
   ·exact .inl (if_neg hb)
  ·by_cases hb:b=a
   ·have z':=(if_pos hb).symm.trans z;cases z';subst hb
    exact⟨ha,by rw [List.length_map];exact hl,vs,_,rv,ha⟩
   ·have z':=(if_neg hb).symm.trans z;cases z'
  ·by_cases hb:b=a
   ·exact hb
   ·exact absurd (if_neg hb) z
end L2
namespace L2
open PySem PySem.Spec PyProof.Rows
noncomputable abbrev KOf{K:PySem.W.Frag}{h:Heap}(_:K.In h):PySem.W.Frag:=K
theorem walk_of{l:PySem.W.OpenLaw}{n k:Nat}{q:Program}{loose:List Str}{XP:(Str->Option Value)->Heap->Prop}{YP:World->Heap->Prop}{d:DefRec}{K:Params->PySem.W.Frag}{CX:World->CXT}{sp:World->Sp}{x:Str}
  (hn:l.most=some n) (hn2:n<=sizeLine) (hdf:d.params.defaults=[]) (hr:Room k callerA)
  (hY:∀(w:World) (h:Heap),YP w h->(K w.params).In h)
  (F:∀(w:World) (mg:Str->Option Value) (fa:Addr) (h:Heap),(K w.params).In h->h.Ns mainGlobals mg->mg d.name=some (.ref fa) ->
   ∃fd:FuncData,(∀(s:Shared) (u:Value),BindsTo s fd ⟨[u],[]⟩ [(x,u)]) /\
    ∀base:Heap,(K w.params).In base->base.Ns mainGlobals mg->FnOk l.prog w (K w.params) mg base (CX w) k fa fd [x] (sp w))
  (hsp:∀(w:World) (H:Hp) (a:Addr) (ns:List Int),ns.length<=n->Qjy H->SqL (K w.params) H a (ns.map V.int)->sp w [.ref a] H (fun v _=>v=.bl true) fun _ _ _=>False)
  (hCX:∀(w:World) (H:Hp) (s:Shared) (e:Value) (s':Shared),CX w [] H s (fun _ _ _=>False) e s'->False):
  PySem.W.WalkO q loose XP YP l.row.toRowW d [] (fun f vs=>PySem.call f vs):=by
 refine Att.attach_call hn hdf fun w s₀ s₁ mg mb fa o pm cd doc a vs ns G Y ho hd hcd hmg hobj hints hlen hg=>?_;have KX:=hY w _ Y;obtain⟨fd,hb,hF⟩:=F w mg fa _ KX G.T.g hmg;exact Qew KX G.T.g G.T.b G.T.builtins G.T.nolimit hg hobj hints (Nat.le_trans hlen hn2) hr hF hb (fun H hO hS=>hsp w H a ns hlen hO hS) fun H e s'=>hCX w H s₁ e s'
end L2
namespace L2
open PySem PySem.Spec PyProof.Rows
noncomputable def Qi(s:Stmt)(j:Nat):Stmt:=match s with
 | .ClassDef _ _ _ body _ _ _ _ _ _ _=>body.getD j (.Pass ⟨0,0,0,0⟩)
 | _=>.Pass ⟨0,0,0,0⟩
noncomputable def Qd(s:Stmt):Arguments:=match s with
 | .FunctionDef _ a _ _ _ _ _ _ _ _=>a
 | _=>{ posonlyargs:=[],args:=[],vararg:=none,kwonlyargs:=[],kw_defaults:=[],kwarg:=none,defaults:=[] }
noncomputable def Qc(s:Stmt):List Stmt:=match s with
 | .FunctionDef _ _ b _ _ _ _ _ _ _=>b
 | _=>[]
noncomputable def Qa(s:Stmt):Scope:=match s with
 | .FunctionDef _ _ _ _ _ _ sc _ _ _=>sc
 | _=>{ kind:=.function,names:=[],isGenerator:=false,isCoroutine:=false }
noncomputable abbrev CX0:CXT:=fun _ _ _ _ _ _=>False
noncomputable abbrev E0:XK:=fun _ _ _=>False
theorem Qae{X:Cx}:Yw CX0 X E0:=fun _ _ _ _ _ _ _ h=>h.elim
section
variable {P:Program}{w:World}{K:PySem.W.Frag}{mg:Str->Option Value}{base:Heap}
end
theorem QgI{A:Around}{k:Nat}(hr:Room k A):A.units+1<cLine:=Nat.lt_of_le_of_lt (Nat.add_le_add_left (by decide:1<=64) _) hr.units
section
variable {X:Cx}
end
noncomputable def Same(H H':Hp):Prop:=∀b o,H b=some o->H' b=some o
theorem Same.seq{K:PySem.W.Frag}{H H':Hp}{a:Addr}{xs:List V}(e:Same H H')(h:SqL K H a xs):SqL K H' a xs:=by
 rcases h with(h | ⟨o,h⟩) | h
 ·exact .inl (.inl (e _ _ h))
 ·exact .inl (.inr ⟨o,e _ _ h⟩)
 ·exact .inr h
section
variable {κ:Type}[DecidableEq κ]
theorem QfC{kvs:List (κ×V)}{k:κ}{v:V}(h:Zl kvs k=some v):k∈kvs.map (·.1):=by
 have q:(kvs.any fun kv=>decide (kv.1=k))=true:=by
  rw [ZE,h]
  all_goals rfl
 obtain⟨p,hp,e⟩:=List.any_eq_true.mp q;exact List.mem_map.mpr ⟨p,hp,of_decide_eq_true e⟩
end
end L2
namespace Iv
open PySem
noncomputable def QiR(sep:List Nat):List (List Nat)->List Nat
 | []=>[]
 | [x]=>x
 | x::y::r=>x++sep++QiR sep (y::r)
noncomputable def QbF(c:Nat):List Nat->List (List Nat)
 | []=>[[]]
 | a::r=>if a=c then []::QbF c r else match QbF c r with
  | []=>[[a]]
  | p::ps=>(a::p)::ps
theorem pickL{β:Type}(l:List β)(a:Nat):∀k:Nat,(List.range k).filterMap (fun m=>l[a+m]?)=(l.drop a).take k
 | 0=>rfl
 | k+1=>by
  rw [List.range_succ,List.filterMap_append,pickL l a k,List.take_add_one,List.getElem?_drop];cases e:l[a+k]?<;>simp [e]
end Iv
namespace L2
open PySem PySem.Spec PyProof.Rows Builtin Builtin.Str
section
variable {X:Cx}
theorem Jg : CallR X (.type "int") (fun xs H Q => ∃ x, xs = [.str x] /\ NumText.AllDigits x.cps.toList /\ x.cps.toList ≠ [] /\ x.length <= 640 /\ Q (.int ((NumText.digitsVal x.cps.toList : Nat) : Int)) H) := by
 intro pins s σ H xs us Q I r h;obtain⟨x,rfl,h1,h2,h3,q⟩:=h;obtain⟨u,rfl,t,rfl⟩:=Jl r
 exact PySem.W.KIN.call_text (intText_digits h1 h2 (by omega)) h3 ⟨.int _,H,I.tok _,⟨_,rfl⟩,q⟩
theorem Jo(lo hi:Option Int)(n:Nat):strSliceIndices lo hi 1 n=(List.range (HT.sIx n n hi-HT.sIx n 0 lo)).map (HT.sIx n 0 lo + ·):=by
 have cl:∀(v:Option Int) (d:Nat),(match v with | none=>((d:Nat):Int) | some i=>max 0 (min (if i<0 then i+(n:Int)else i) (n:Int)))=((HT.sIx n d v:Nat):Int):=fun v d=>by
  cases v with
  | none=>rfl
  | some i =>
   rw [<-HT.clip_eq i n d];simp only;split<;>omega
 have e1:(match lo with | none=>(0:Int) | some i=>max 0 (min (if i<0 then i+(n:Int)else i) (n:Int)))=((HT.sIx n 0 lo:Nat):Int):=by
  rw [<-cl lo 0];cases lo<;>rfl
 have c2:=cl hi n
 have key:∀L U:Int,L=((HT.sIx n 0 lo:Nat):Int)->U=((HT.sIx n n hi:Nat):Int)->sliceRange L U 1=(List.range (HT.sIx n n hi-HT.sIx n 0 lo)).map (HT.sIx n 0 lo + ·):=by
  rintro L U rfl rfl;unfold sliceRange
  have e2:(if(1:Int) > 0 then(if((HT.sIx n 0 lo:Nat):Int) < ((HT.sIx n n hi:Nat):Int)then(((HT.sIx n n hi:Nat):Int) - ((HT.sIx n 0 lo:Nat):Int)+1-1) / 1 else 0)else(if((HT.sIx n 0 lo:Nat):Int) > ((HT.sIx n n hi:Nat):Int)then(((HT.sIx n 0 lo:Nat):Int) - ((HT.sIx n n hi:Nat):Int) - 1-1) / (-1)else 0)).toNat=HT.sIx n n hi-HT.sIx n 0 lo:=by
   rw [if_pos (by decide)]
   split<;>omega
  simp only [e2];refine List.map_congr_left fun k _=>?_;omega
 exact key _ _ e1 c2
theorem QbG(x:Str)(lo hi:Option Int):(Txt.slice x lo hi).cps.toList=(x.cps.toList.drop (HT.sIx x.length 0 lo)).take (HT.sIx x.length x.length hi-HT.sIx x.length 0 lo):=by
 have hl:x.cps.toList.length=x.length:=by simp [Str.length]
 unfold Txt.slice;split
 ·rename_i h;rw [Bool.and_eq_true]at h;have h:=eq_of_beq h.2;rw [Jo,List.length_map,List.length_range]at h;have a:=HT.sIx_le (n:=x.length) (d:=x.length) (Nat.le_refl _) hi
  have e1:HT.sIx x.length 0 lo=0:=by
   by_cases hx:x.length=0
   ·have:=HT.sIx_le (n:=x.length) (d:=0) (Nat.zero_le _) lo;omega
   ·omega
  rw [e1,List.drop_zero,List.take_of_length_le (by omega)]
 ·rw [Jo,List.filterMap_map];show(List.filterMap (fun m=>x.cps[HT.sIx x.length 0 lo+m]?) _)=_
  have e:(fun m=>x.cps[HT.sIx x.length 0 lo+m]?)=fun m=>x.cps.toList[HT.sIx x.length 0 lo+m]?:=by
   funext m
   exact Array.getElem?_toList.symm
  rw [e];exact Iv.pickL _ _ _
noncomputable def QlL:V->Option Int->Option Int->Hp->VK->Prop:=fun x lo hi H Q=>∃y,x=.str y/\y.length<=sizeLine/\Q (.str (Txt.slice y lo hi)) H
theorem QhD:SlR X QlL:=by
 intro pins s σ H x v vl vu lo hi sl Q I rx hs pl pu h;obtain⟨y,rfl,hz,q⟩:=h;obtain⟨t,rfl⟩:=rx;refine⟨"str",_,F.slot_str_getitem.lookup,typeIs_str _ _ _,?_⟩
 have fin:∀(l u:Option (Int×Tok)),l.map (·.1)=lo->u.map (·.1)=hi->s.heap.IsSlice sl l u none->wpAny (model X.prog X.w) X.A (getItem (.str y t) (.ref sl)) (EP X pins σ Q) X.xe s:=by
  rintro l u rfl rfl his;refine wpAny_getItem_str_slice (l:=l) (u:=u) (st:=none) his rfl ?_;exact post_val_or_str ⟨Nat.le_trans (Txt.slice_le y _ _) hz,fun t' k=>⟨.str _,H,I.kept (t':=k) fun _ _ e=>e,⟨_,rfl⟩,q⟩⟩
 cases pl with
 | none=>cases pu with
  | none=>exact fin none none rfl rfl hs
  | int j tj=>exact fin none (some (j,tj)) rfl rfl hs
 | int i ti=>cases pu with
  | none=>exact fin (some (i,ti)) none rfl rfl hs
  | int j tj=>exact fin (some (i,ti)) (some (j,tj)) rfl rfl hs
end
end L2
namespace L2
open PySem PySem.Spec PyProof.Rows
section
variable {X:Cx}
end
end L2
namespace L2
open PySem PySem.Spec PySem.W PyProof.Rows
noncomputable def QlI{α:Type}(lt:Nat->Nat->Bool):KasT α->α
 | .ret a=>a
 | .ask i j k=>QlI lt (k (lt i j))
noncomputable def QlX:List Int->List Int->Bool
 | [],[]=>false
 | [],_::_=>true
 | _::_,[]=>false
 | x::xs,y::ys=>if x=y then QlX xs ys else decide (x<y)
noncomputable def ltK(ks:List (List Int))(i j:Nat):Bool:=QlX (ks.getD i []) (ks.getD j [])
noncomputable def permK(ks:List (List Int))(n:Nat):List Nat:=if n<2 then List.range n else(QlI (ltK ks) (kas_sort n)).toList
section
variable {prog:Program}{w:World}{A:Around}{E:Value->Shared->Prop}{s:Shared}
end
section
variable {X:Cx}
end
end L2
namespace L2
open PySem
noncomputable def Qbp(cells:List (Str×Addr)):List (Str×NameKind)->List (Str×Addr)->List (Str×Addr)
 | [],cs=>cs
 | (n,k)::r,cs=>Qbp cells r (if(k==.free)=true then(match cells.lookup n with | some c=>(n,c)::cs | none=>cs)else cs)
theorem YT{scope:Scope}{env:Env}(h:∀y∈scope.names,y.2=.free->∃c,env.cells.lookup y.1=some c):closureFor scope env=pure (Qbp env.cells scope.names []):=by
 have all:∀(l:List (Str×NameKind)) (cs:List (Str×Addr)),(∀y∈l,y.2=.free->∃c,env.cells.lookup y.1=some c) ->
   (forIn l cs fun(x:Str×NameKind) (r:List (Str×Addr))=>match x with | (name,kind)=>if(kind==NameKind.free)=true then(do let y <-cellOf env name;pure (ForInStep.yield ((name,y)::r)))else(pure (ForInStep.yield r):Sem _))=(pure (Qbp env.cells l cs):Sem _):=by
  intro l
  induction l with
  | nil=>intro cs _;simp only [List.forIn_nil];rfl
  | cons p r ih =>
   obtain⟨n,k⟩:=p;intro cs hy;rw [List.forIn_cons];by_cases hk:(k==NameKind.free)=true
   ·obtain⟨c,hc⟩:=hy (n,k) List.mem_cons_self (by simpa using hk)
    have hc:env.cells.lookup n=some c:=hc
    have e:cellOf env n=pure c:=by unfold cellOf;rw [hc]
    simp only [hk,if_true,e,pure_bind];rw [ih _ fun y m=>hy y (List.mem_cons_of_mem _ m)];simp only [Qbp,hk,if_true,hc]
   ·simp only [hk,Bool.false_eq_true,if_false,pure_bind];rw [ih _ fun y m=>hy y (List.mem_cons_of_mem _ m)];simp only [Qbp,hk,Bool.false_eq_true,if_false]
 have:=all scope.names [] h;unfold closureFor;simp only [bind_pure_comp]at this ⊢;rw [this];rfl
theorem JL{cells:List (Str×Addr)}{x:Str}{c:Addr}:∀{l:List (Str×NameKind)} {cs:List (Str×Addr)},(Qbp cells l cs).lookup x=some c->cs.lookup x=some c\/cells.lookup x=some c
 | [],_,h=>.inl h
 | (n,k)::r,cs,h=>by
  have h:(Qbp cells r (if(k==NameKind.free)=true then(match cells.lookup n with | some c=>(n,c)::cs | none=>cs)else cs)).lookup x=some c:=h
  rcases JL h with h1 | h1
  ·clear h;by_cases hk:(k==NameKind.free)=true
   ·rw [if_pos hk]at h1
    cases hc:cells.lookup n with
    | none=>rw [hc]at h1;exact .inl h1
    | some c' =>
     rw [hc]at h1;have h2:List.lookup x ((n,c')::cs)=some c:=h1;clear h1;rw [List.lookup_cons]at h2
     cases hx:x==n with
     | true =>
      rw [hx]at h2;have e:=eq_of_beq hx;subst e;exact .inr (hc.trans h2)
     | false=>rw [hx]at h2;exact .inl h2
   ·rw [if_neg hk]at h1;exact .inl h1
  ·exact .inr h1
theorem Jd{cells:List (Str×Addr)}{x:Str}{c:Addr}(hc:cells.lookup x=some c):∀{l:List (Str×NameKind)} {cs:List (Str×Addr)},((x,NameKind.free)∈l\/cs.lookup x=some c)->(Qbp cells l cs).lookup x=some c
 | [],_,h=>by
  rcases h with h | h
  ·cases h
  ·exact h
 | (n,k)::r,cs,h=>by
  show(Qbp cells r (if(k==NameKind.free)=true then(match cells.lookup n with | some c=>(n,c)::cs | none=>cs)else cs)).lookup x=some c
  refine Jd (l:=r) hc ?_
  rcases h with h | h
  ·rcases List.mem_cons.mp h with e | h
   ·cases e;refine .inr ?_
    rw [if_pos (by decide),hc]
    simp [List.lookup_cons]
   ·exact .inl h
  ·refine .inr ?_;split
   ·split
    ·rename_i c' h';rw [List.lookup_cons];split
     ·rename_i e;have e:=eq_of_beq e;subst e;exact h'.symm.trans hc
     ·exact h
    ·exact h
   ·exact h
noncomputable def mang(x:Str):Str:=⟨x.cps.push 33⟩
noncomputable def hideN(xs N:List Str):List Str:=N.map fun y=>if xs.contains y then mang y else y
theorem ZN{xs N:List Str}:(hideN xs N).length=N.length:=by unfold hideN;rw [List.length_map]
theorem QeC{xs N:List Str}{i:Nat}{y:Str}(h:(hideN xs N)[i]?=some y):∃z,N[i]?=some z/\((z∈xs/\y=mang z)\/(z∉xs/\y=z)):=by
 unfold hideN at h;rw [List.getElem?_map,Option.map_eq_some_iff]at h;obtain⟨z,h1,h2⟩:=h;refine⟨z,h1,?_⟩;by_cases c:xs.contains z=true
 ·rw [if_pos c]at h2;exact .inl ⟨List.contains_iff_mem.mp c,h2.symm⟩
 ·rw [if_neg c]at h2;exact .inr ⟨fun m=>c (List.contains_iff_mem.mpr m),h2.symm⟩
noncomputable def relN(outer:List (Str×NameKind))(names:List (Str×NameKind)):List (Str×NameKind):=names.map fun(n,k)=>if(k==.free&&outer.lookup n==some .cell)=true then(n,.cell)else(n,k)
theorem QW{scope:Scope}{env:Env}(h:env.scope.kind=.function):(relabel scope env).names=relN env.scope.names scope.names:=by
 unfold relabel relN;refine List.map_congr_left fun p _=>?_;obtain⟨n,k⟩:=p;simp only [h,beq_self_eq_true,Bool.and_true];rfl
theorem Zq{outer:List (Str×NameKind)}{x:Str}:∀{l:List (Str×NameKind)},(relN outer l).lookup x=(l.lookup x).map fun k=>if(k==.free&&outer.lookup x==some .cell)=true then .cell else k
 | []=>rfl
 | (n,k)::r=>by
  have ih:=@Zq outer x r;show List.lookup x ((if(k==NameKind.free&&outer.lookup n==some .cell)=true then(n,NameKind.cell)else(n,k))::relN outer r)=_;rw [List.lookup_cons (as:=r)]
  cases hx:x==n with
  | true =>
   have e:=eq_of_beq hx;subst e;simp only [List.lookup_cons_self,Option.map_some];by_cases z:(k==NameKind.free&&outer.lookup x==some .cell)=true
   ·rw [if_pos z,if_pos z,List.lookup_cons_self]
   ·rw [if_neg z,if_neg z,List.lookup_cons_self]
  | false =>
   split
   ·simp [List.lookup_cons,hx,ih]
   ·simp [List.lookup_cons,hx,ih]
theorem ZV{κ β:Type}[BEq κ][LawfulBEq κ]{l:List (κ×β)}{k:κ}{b:β}(h:l.lookup k=some b):(k,b)∈l:=by
 induction l with
 | nil=>simp at h
 | cons p r ih =>
  obtain⟨a,c⟩:=p;rw [List.lookup_cons]at h;split at h
  ·rename_i e;have e:=eq_of_beq e;subst e;cases h;exact List.mem_cons_self
  ·exact List.mem_cons_of_mem _ (ih h)
section
variable {prog:Program}{w:World}{A:Around}{R:Result->Shared->Prop}{s:Shared}
theorem Qc3{E:Value->Shared->Prop}{env:Env}{tl:Option Expr}{Q:Bool->Shared->Prop}(h:match tl with | none=>Q true s | some c=>wpAny (model prog w) A (isTrue c env (eval c env)) Q E s):
  wpAny (model prog w) A (forIn tl.toList true fun c r=>if r=true then do let ok <-isTrue c env (eval c env);pure (ForInStep.yield ok)else pure (ForInStep.yield r)) Q E s:=by
 cases tl with
 | none=>exact wpAny_tests_nil h
 | some c=>exact wpAny_tests_one h
theorem Qat{elt target iter:Expr}{tl:Option Expr}{scope:Scope}{pos:Pos}{it acc:Value}{env:Env}(I:Nat->Shared->Prop)
  (turn:∀n s,I n s->wpAny (model prog w) A (pyNext it) (fun r s₁=>match r with
   | none=>R (.ok .next) s₁
   | some v=>wpAny (model prog w) A (letOwnedTupleGo target it v) (fun _ s₁'=>wpAny (model prog w) A (assign target env v) (fun _ s₂ =>
     wpAny (model prog w) A (forIn tl.toList true fun c r=>if r=true then do let ok <-isTrue c env (eval c env);pure (ForInStep.yield ok)else pure (ForInStep.yield r)) (fun ok s₃=>if ok=true then
      wpAny (model prog w) A (eval elt env) (fun x s₄ =>
       wpAny (model prog w) A (call (.builtin "list.append") [acc, x]) (fun _ s₅ => ∃ m, m < n /\ I m s₅) (notedBy (model prog w) A env fun e s' => R (.error e) s') s₄) (notedBy (model prog w) A env fun e s' => R (.error e) s') s₃
      else ∃m,m<n/\I m s₃) (notedBy (model prog w) A env fun e s'=>R (.error e) s') s₂)
        (notedBy (model prog w) A env fun e s'=>R (.error e) s') s₁') (notedBy (model prog w) A env fun e s'=>R (.error e) s') s₁) (notedBy (model prog w) A env fun e s'=>R (.error e) s') s)
  (n:Nat) (h:I n s):codeAny (model prog w) A (.compLoop (.ListComp elt [⟨target,iter,tl.toList,0⟩] scope pos) 0 it acc env) R s:=by
 refine codeAny_loop rfl I (fun n s hI=>?_) n h
 show wpAny _ A ((compTurn (.ListComp elt [⟨target,iter,tl.toList,0⟩] scope pos) 0 it acc env).onRaise (fun x=>do noteFrame x env;theTreesLotGoes x)) _ _ s
 refine wpAny_noted ?_;rw [compTurn_list];refine wpAny_bind (wpAny_standAt (wpAny_bind (wpAny_mono (turn n s hI) (fun r s₁ h₁=>?_) fun _ _ h'=>h')))
 cases r with
 | none=>exact wpAny_pure h₁
 | some v =>
  refine wpAny_bind (wpAny_mono h₁ (fun _ s₁' h₁'=>?_) fun _ _ h'=>h');refine wpAny_bind (wpAny_mono h₁' (fun _ s₂ h₂=>wpAny_bind (wpAny_mono h₂ (fun ok s₃ h₃=>?_) fun _ _ h'=>h')) fun _ _ h'=>h')
  cases ok with
  | true =>
   rw [if_pos rfl]at h₃;exact wpAny_bind (wpAny_bind (wpAny_mono h₃ (fun x s₄ h₄=>wpAny_bind (wpAny_mono h₄ (fun _ s₅ h₅=>wpAny_pure (wpAny_pure ⟨rfl,h₅⟩)) fun _ _ h'=>h')) fun _ _ h'=>h'))
  | false =>
   rw [if_neg Bool.false_ne_true]at h₃;exact wpAny_bind (wpAny_pure (wpAny_pure ⟨rfl,h₃⟩))
end
end L2
namespace L2
open PySem PySem.Spec PySem.W PyProof.Rows PySem.Calls PySem.Builtin PySem.Builtin.ObjectAttr PySem.Builtin.Getset_descriptor
structure ErrCls(K:PySem.W.Frag)(C:Addr):Prop where
 ga:findIn K (.ref C) "__getattribute__"=some (some (.builtin "BaseException.__getattribute__"))
 gh:findIn K (.ref C) "__getattr__"=some none
 cl:findIn K (.ref C) "__class__"=some (some (.builtin "object.__class__"))
 gg:specialIn K (.builtin "object.__class__") "__get__"=some (some (.builtin "getset_descriptor.__get__"))
 tk:takesIn K (.builtin "object.__class__")=some true
 sb:subIn K (.ref C) (.type "BaseException")=some true
 so:subIn K (.ref C) (.type "object")=some true
 is:(clsIn K C).isSome=true
noncomputable def Yz(a C:Addr)(h:Heap):Prop:=∃o vs,h.get? a=some o/\o.cls=.ref C/\o.data=.fields vs
section
variable {prog:Program}{w:World}{A:Around}{E:Value->Shared->Prop}{K:PySem.W.Frag}{h:Heap}{g:Array GenState}{d:Drawn}{t:Nat}{os:OsState}{a C:Addr}
theorem YO{M:Model}(p:Yz a C h):Looks M h (typeOf (.ref a)) (.ref C):=by
 obtain⟨o,vs,h1,h2,_⟩:=p;exact h2▸(Looks.ld h1).andThen .now
theorem QeN{M:Model}(Y:ErrCls K C)(X:K.In h):Looks M h (find (.ref a) (.ref C) "__class__") (.bind (.builtin "getset_descriptor.__get__") (.builtin "object.__class__")):=by
 have L1:=looks_findIn (M:=M) X Y.cl;have L2:Looks M h (getOf (some (.builtin "object.__class__"))) (some (.builtin "getset_descriptor.__get__")):=looks_specialIn X Y.gg
 have L3:Looks M h (dataDescriptor? (some (.builtin "object.__class__")) (some (.builtin "getset_descriptor.__get__"))) (some (.builtin "getset_descriptor.__get__",.builtin "object.__class__")):=by
  unfold dataDescriptor?;refine(looks_takesIn X Y.tk).andThen ?_;exact .now
 refine L1.andThen (L2.andThen (L3.andThen ?_));exact Looks.tag .now
theorem Qao{R:Result->Shared->Prop}(Y:ErrCls K C)(X:K.In h)(p:Yz a C h)(hq:R (.ok (.ret (.ref C))) ⟨h,g,d,t,os⟩):
  codeAny (model prog w) A (.call (.builtin "getset_descriptor.__get__") ⟨[.builtin "object.__class__",.ref a,.ref C],[]⟩) R ⟨h,g,d,t,os⟩:=by
 have L1:=looks_subIn (M:=model prog w) X Y.so;have L0:=YO (M:=model prog w) p;refine codeAny_call_builtin KF.slot_gs.plain KF.entry_gs (KF.slot_gs.check _ _ _ _ _ _ _ _ KF.type_class (KF.args_gs _ _ _) ?_);unfold Builtin.«getset_descriptor.__get__» descrGet;rw [dga_obj];refine wpAny_bind (wpAny_pure ?_);unfold descrGetter descrCheckInstance descrNameAndClass isInstance;simp only [KF.owner_class]
 repeat lk
 refine⟨Code.quiet_builtin _ (by decide +kernel),codeAny_builtin KF.entry_class ?_⟩
 unfold Builtin.«object.__class__» shownTypeOf
 repeat lk
 exact hq
theorem QcA{M:Model}{nameV:Value}{Q:Unit->Shared->Prop}(Y:ErrCls K C)(X:K.In h)(p:Yz a C h)(hq:Q () ⟨h,g,d,t,os⟩):wpAny M A (checkBuiltinCall "BaseException.__getattribute__" ⟨[.ref a,nameV],[]⟩) Q E ⟨h,g,d,t,os⟩:=by
 have hk:builtinKind "BaseException.__getattribute__"=some .slot:=by decide +kernel
 have hsplit:splitId "BaseException.__getattribute__"=some ("BaseException","__getattribute__"):=by decide +kernel
 have ha:=PySem.F.args_bexc_ga (.ref a) nameV;have L2:Looks M h (isInstance (.ref a) (.type "BaseException")) true:=(YO p).andThen (looks_subIn X Y.sb);simp only [checkBuiltinCall,hk,hsplit];refine wpAny_bind (L2.at ?_)
 repeat (first | wp_step)
 exact hq
theorem Qcy{tk:Tok}{Q:Fin->Shared->Prop}(Y:ErrCls K C)(X:K.In h)(p:Yz a C h)(hq:Q (.done (.ret (.ref C))) ⟨h,g,d,t,os⟩):
  wpAny (model prog w) A (Builtin.«object.__getattribute__» ⟨[.ref a,.str "__class__" tk],[]⟩) Q E ⟨h,g,d,t,os⟩:=by
 have L0:=YO (M:=model prog w) p;have L1:=QeN (M:=model prog w) (a:=a) Y X;unfold Builtin.«object.__getattribute__»;refine wpAny_bind (wpAny_pure (wpAny_bind (wpAny_pure (wpAny_bind (L0.at (wpAny_bind (L1.at ?_)))))));show wpAny _ _ (holding [_] (call (.builtin "getset_descriptor.__get__") [.builtin "object.__class__",.ref a,.ref C]) >>= ret) _ _ _;exact wpAny_bind (wpAny_holding (wpAny_call (Qao Y X p (wpAny_pure hq))))
theorem Qcz{Q:Option Value->Shared->Prop}(Y:ErrCls K C)(X:K.In h)(p:Yz a C h)(hq:Q (some (.ref C)) ⟨h,g,d,t+1,os⟩):
  wpAny (model prog w) A (getAttr? (.ref a) "__class__") Q E ⟨h,g,d,t,os⟩:=by
 have L0:=YO (M:=model prog w) p;have L1:=looks_findIn (M:=model prog w) X Y.ga;have L2:=looks_findIn (M:=model prog w) X Y.gh;unfold getAttr? getAttrBy? getAttrBy;refine wpAny_bind (wpAny_mkText (wpAny_bind (wpAny_attempt (wpAny_holding (wpAny_bind (L0.at (wpAny_bind (L1.at ?_))))))));dsimp only
 have hne:¬(onTheHeap (Value.ref C)&&Value.builtin "BaseException.__getattribute__"==Value.builtin "object.__getattribute__")=true:=by
  rw [show(Value.builtin "BaseException.__getattribute__"==Value.builtin "object.__getattribute__")=false from by decide +kernel]
  simp
 rw [if_neg hne];unfold getAttrByItsOwn hookBefore;refine wpAny_bind ?_;rw [if_pos (show onTheHeap (Value.ref C)=true from rfl)];refine L2.at ?_;refine wpAny_bind (wpAny_attempt (wpAny_holding ?_));have f3:=PySem.F.attrBase_ValueError.ga.bind (.ref a);show wpAny _ _ (boundAndCalled (.builtin "BaseException.__getattribute__") (.ref a) _) _ _ _;unfold boundAndCalled;refine wpAny_bind (wpAny_of_eq f3 ?_);refine wpAny_call ?_;refine codeAny_call_builtin PySem.F.attrBase_ValueError.ga.plain PySem.F.entry_bexc_ga (QcA Y X p (Qcy Y X p ?_));show wpAny _ _ (handedOut _) _ _ _;exact wpAny_pure (wpAny_pure hq)
theorem Qex(Y:ErrCls K C):KitX K (.ref a) (.ref C) (Yz a C) where
 ty:=fun _ _ _ p=>YO p
 it:=fun _ _ X _=>by
  obtain⟨cdD,hcD⟩:=Option.isSome_iff_exists.mp Y.is;unfold clsIn at hcD;split at hcD
  ·rename_i c' d' cd' sl' ho;intro A' Q' E' s' k q;unfold isType loadHead;exact wpAny_bind (wpAny_loadPart (k _ _ (X _ _ ho)) (wpAny_pure q))
  ·cases hcD
 ne:=fun h tp dd its n sl X htp=>by
  obtain⟨cdD,hcD⟩:=Option.isSome_iff_exists.mp Y.is;refine Bool.eq_false_iff.mpr fun q=>?_;have e:C=tp:=Value.ref.inj (beq_iff_eq.mp q);subst e;unfold clsIn at hcD;split at hcD
  ·rename_i c' d' cd' sl' ho;have z:=(X _ _ ho).symm.trans htp;cases z
  ·cases hcD
 ca:=fun {_ _ _ _ _ s} X p k=>by
  obtain⟨h,g,d,t,os⟩:=s;exact Qcz Y X p k
end
noncomputable def Qfo(a C:Addr):HO:=.ext (Yz a C)
theorem Qi3{P:Program}{w:World}{H:Hp}{h:Heap}{a C:Addr}(p:Yz a C h):ObjOk P w H h a (Qfo a C):=by
 refine⟨p,?_,fun h1 h2 q k=>?_⟩
 ·obtain⟨o,_,e,_⟩:=p;exact⟨o,e⟩
 ·obtain⟨o,vs,e,r⟩:=q;exact⟨o,vs,k o e,r⟩
theorem QeO{X:Cx}{pins:List (Addr×Obj)}{σ:St}{H:Hp}{s:Shared}{a C:Addr}(I:Inv X pins σ H s)(e:H a=some (Qfo a C)):Yz a C s.heap :=
 (show ObjOk X.prog X.w H s.heap a (.ext (Yz a C))from I.hok a _ e).1
theorem QcQ {X : Cx} : CallR X (.builtin "isinstance") (fun xs H Q => ∃ a c cv C b, xs = [.ref a, c] /\ (match c with | .ty n => some (Value.type n) | .ref r => some (.ref r) | _ => none) = some cv /\ H a = some (Qfo a C) /\ ErrCls X.K C /\ PySem.W.kitOne X.K (.ref C) cv = some b /\ Q (.bl b) H) := by
 intro pins s σ H xs us Q I r h;obtain⟨a,c,cv,C,b,rfl,hc,ha,Y,e,q⟩:=h;obtain⟨u,w',rfl,rx,rc⟩:=QfB r;cases(show u=Value.ref a from rx)
 have ec:w'=cv:=by
  cases c with
  | ty n=>cases(show w'=Value.type n from rc);exact Option.some.inj hc
  | ref r0=>cases(show w'=Value.ref r0 from rc);exact Option.some.inj hc
  | _=>cases hc
 subst ec;exact PySem.W.kia_one (Qex Y) I.kIn (QeO I ha) e (fun z=>nomatch z) fun tk=>⟨.bl b,H,I.tok tk,rfl,q⟩
end L2
namespace L2
open PySem PySem.Spec PySem.W PyProof.Rows
structure Cov(B:Heap)(H:Hp)(s:Shared)(l:List Env):Prop where
 trk:∀b u,H b=some u->∃o,B.get? b=some o
 old:∀b o,s.heap.get? b=some o->b∉frs l->∃o',B.get? b=some o'
noncomputable def CXw(P:Program)(w:World):CXT:=fun outer H s E e s'=>∃a C H' B a0,e=.ref a/\s'.os=s.os/\AllBare s'.gens/\Un (frs outer) [] H H' s.heap s'.heap/\HOk P w H' s'.heap /\
 Heap.FlyingW B outer a (.ref C) a0 s'.heap/\Cov B H' s outer/\H' a=none/\s.heap.get? a=none/\E (.ref C) none H'
theorem ObjOk.there{P:Program}{w:World}{H:Hp}{h:Heap}{a:Addr}{o:HO}(x:ObjOk P w H h a o):∃u,h.get? a=some u:=by
 cases o with
 | lst xs=>obtain⟨_,_,_,_,e⟩:=x;exact⟨_,e⟩
 | tup xs=>obtain⟨_,_,_,_,e,_⟩:=x;exact⟨_,e⟩
 | dK kvs=>obtain⟨_,_,_,_,o,_,_,e,_⟩:=x;exact⟨_,e⟩
 | dT kvs=>obtain⟨_,_,_,_,o,_,_,e,_⟩:=x;exact⟨_,e⟩
 | set S n=>obtain⟨o,_,_,_,e,_⟩:=x;exact⟨_,e⟩
 | ins C dx fs=>obtain⟨_,_,_,e,_⟩:=x;exact⟨_,e⟩
 | own y=>obtain⟨_,e⟩:=x;exact⟨_,e⟩
 | xd fs=>obtain⟨_,⟨_,_,_,e,_⟩,_⟩:=x;exact⟨_,e⟩
 | rng lo hi=>obtain⟨_,_,_,e⟩:=x;exact⟨_,e⟩
 | frz ob u=>obtain⟨e,_⟩:=x;exact⟨_,e⟩
 | tbl ps=>exact⟨_,(show h.get? a=some _ from x)⟩
 | met f y=>exact⟨_,(show h.get? a=some _ from x)⟩
 | ext φ=>obtain⟨_,⟨_,e⟩,_⟩:=x;exact⟨_,e⟩
theorem Qe5{P:Program}{w:World}{l:List Env}{H H':Hp}{s:Shared}{h1 h2 B base:Heap}(un:Un (frs l) [] H H' s.heap h1)(hok:HOk P w H' h1)(ff:s.heap.FunFrames base l)(fr:∀b∈frs l,H b=none)
  (st1:B.StaysIn h1) (st2:B.StaysIn h2) (up:h1.UpToSlots h2) (cv:Cov B H' s l):Un (frs l) [] H H' s.heap h2/\HOk P w H' h2:=by
 have fsl:∀b o,s.heap.get? b=some o->b∈frs l->∃sl,h2.get? b=some { o with slots:=sl }:=fun b o q hb=>by
  obtain⟨sl,e⟩:=un.slot b o q (fr b hb) hb (by simp)
  obtain⟨_,o2,ho2,hd⟩:=ff.mem hb;rw [q]at ho2;cases ho2;obtain⟨sl',e'⟩:=up b _ e hd;exact⟨sl',e'⟩
 refine⟨⟨fun b o q n hb hx=>?_,fun b o q n hb hx=>fsl b o q hb,un.free,fun b o q hx=>?_,un.tups,un.frzs,un.tbls⟩,fun a o e=>?_⟩
 ·have e1:=un.keep b o q n hb hx;obtain⟨o',e2⟩:=cv.old b o q hb;have e3:=st1 b o' e2;rw [e1]at e3;cases e3;exact st2 b _ e2
 ·by_cases hb:b∈frs l
  ·obtain⟨sl,e⟩:=fsl b o q hb;exact⟨_,e⟩
  ·obtain⟨o',e2⟩:=cv.old b o q hb;exact⟨o',st2 b _ e2⟩
 ·refine(hok a o e).stay (fun b u hb q=>?_) (fun _ z=>z) fun _ _ z=>z
  have ht:∃x,H' b=some x:=by
   rcases hb with rfl | z
   ·exact⟨_,e⟩
   ·exact⟨_,z⟩
  obtain⟨x,hx⟩:=ht;obtain⟨o',e2⟩:=cv.trk b x hx;have e3:=st1 b o' e2;rw [q]at e3;cases e3;exact st2 b _ e2
section
variable {X:Cx}{pins:List (Addr×Obj)}{σ:St}{H H':Hp}{s s':Shared}{e C:Addr}{B:Heap}{a0:Value}{E:XK}
theorem Cov.up(I:Inv X pins σ H s)(hex:X.ex=[])(cv:Cov B H' s X.stack):Cov B H' X.s₀ X.outer:=by
 refine⟨cv.trk,fun b o q hb=>?_⟩
 obtain⟨o',e⟩:=I.base.there b o q (by rw [hex];simp)
 refine cv.old b o' e fun z=>?_
 rcases List.mem_cons.mp (I.stkSub b z)with z | z
 ·exact Nat.ne_of_lt (Nat.lt_of_lt_of_le (Heap.lt_size q) I.ok.above) z
 ·exact hb z
theorem Qbi{E2:Value->Shared->Prop}{L:Addr}{h':Heap}{vs:List Value}(hst:X.stack=X.env::X.outer)(hf:X.env.frame=some L)(hex:X.ex=[])(I:Inv X pins σ H s)(hx:Heap.MadeExcOf s.heap h' e (.ref C) vs)(hE:E (.ref C) none H):
  wpAny (model X.prog X.w) X.A (leaving X.env (.ref e)) (fun _ s''=>CXw X.prog X.w X.outer X.H₀ X.s₀ E (.ref e) s'') E2 { s with heap:=h' }:=by
 have hn:H e=none:=by
  cases q:H e with
  | none=>rfl
  | some u =>
   obtain⟨o,ho⟩:=(I.hok e u q).there;rw [hx.new]at ho;cases ho
 have h0:X.s₀.heap.get? e=none:=by
  cases q:X.s₀.heap.get? e with
  | none=>rfl
  | some o =>
   obtain⟨o',ho⟩:=I.base.there e o q (by rw [hex];simp)
   rw [hx.new]at ho;cases ho
 have ff:s.heap.FunFrames (hideAll s.heap (frs X.stack)) X.stack:=funFrames_hide I.stack fun env he a ha=>List.mem_filterMap.mpr ⟨env,he,ha⟩;have stB:(hideAll s.heap (frs X.stack)).StaysIn s.heap:=fun b o q=>of_hideAll _ q
 have cv0:Cov (hideAll s.heap (frs X.stack)) H s X.stack:=by
  refine⟨fun b u q=>?_,fun b o q hb=>⟨o,hideAll_get _ q hb⟩⟩;obtain⟨o,ho⟩:=(I.hok b u q).there
  exact⟨o,hideAll_get _ ho fun z=>by rw [I.stkFree b z]at q;cases q⟩
 have cv:=cv0.up I hex;have J:=I.kept (t':=s.toks) hx.keeps;refine wpAny_leaves_madeW (base:=hideAll s.heap (frs X.stack)) (hst▸I.ok.frames) hf stB (hst▸ff) hx fun h2 t fl ht hbt up=>?_;have b:=J.base;rw [hex]at b;obtain⟨un,hok⟩:=Qe5 b J.hok J.ok.funs J.ok.frf (fun b o q=>hx.keeps _ _ (stB b o q)) fl.1 up cv;exact⟨e,C,H,_,_,rfl,J.os,J.bare,un,hok,fl,cv,hn,h0,hE⟩
theorem Inv.adopt{ho:HO}(I:Inv X pins σ H s)(hn:H e=none)(h0:X.s₀.heap.get? e=none)(hL:e≠X.env.locals)(hC:∀x c,X.env.cells.lookup x=some c->c≠e)(hp:∀p∈X.pn++pins,p.1≠e)
  (new:ObjOk X.prog X.w (upd H e ho) s.heap e ho):Inv X pins σ (upd H e ho) s:=by
 have ne:∀b u,H b=some u->b≠e:=fun b u q z=>by rw [z,hn]at q;cases q
 refine⟨I.ok,I.os,I.bare,⟨I.base.keep,I.base.slot,fun b o q n hx=>?_,I.base.there,fun b xs q=>?_,fun b o u q=>?_,fun b ps q=>?_⟩,I.loc,I.cell,?_,fun x c q=>?_,fun p hp'=>?_,fun b u q=>?_,I.len⟩
 ·have hb:b≠e:=fun z=>by rw [z,h0]at q;cases q
  rw [Qe hb];exact I.base.free b o q n hx
 ·have z:=I.base.tups b xs q;rw [Qe (ne _ _ z)];exact z
 ·have z:=I.base.frzs b o u q;rw [Qe (ne _ _ z)];exact z
 ·obtain⟨m,z⟩:=I.base.tbls b ps q
  exact⟨m,by rw [Qe (ne _ _ z)];exact z⟩
 ·rw [Qe (Ne.symm hL)];exact I.free
 ·rw [Qe (hC x c q)];exact I.freeC x c q
 ·obtain⟨a1,a2,a3⟩:=I.pin p hp'
  exact⟨a1,by rw [Qe (hp p hp')];exact a2,a3⟩
 ·by_cases hb:b=e
  ·subst hb;rw [Qg]at q;cases q;exact new
  ·rw [Qe hb]at q
   exact(I.hok b u q).stay (fun c v _ r=>r) (fun c r=>by rw [Qe (ne _ _ r)];exact r) fun c xs r=>by rw [Qe (ne _ _ r)];exact r
theorem Inv.gone{n:Str}{j t:Nat}{m:Str->Option Value}{v:Option Value}{h':Heap}(I:Inv X pins σ H s)(hN:X.N.Nodup)(hj:X.N[j]?=some n)(hk:X.env.scope.names.lookup n=some .local)(hm:s.heap.Ns X.env.locals m)
  (hn:h'.Ns X.env.locals (fun x=>if x=n then v else m x)) (hs:Heap.SameBut X.env.locals s.heap h'):Inv X pins (σ.set j none) H { s with heap:=h',toks:=t }:=by
 obtain⟨m0,hm0,hl⟩:=id I.loc;obtain⟨oL,_,_,hoL,_⟩:=id hm
 have em:∀x,m0 x=m x:=fun x=>by
  obtain⟨o1,es1,ep1,a1,a2,a3,a4⟩:=hm0;obtain⟨o2,es2,ep2,b1,b2,b3,b4⟩:=hm;rw [a1]at b1;cases b1;rw [a2]at b2;cases b2;rw [<-a4,<-b4]
 refine⟨I.ok,I.os,I.bare,⟨fun b o e n hb hx=>?_,fun b o e n hb hx=>?_,I.base.free,fun b o e hx=>?_,I.base.tups,I.base.frzs,I.base.tbls⟩,⟨_,hn,fun i y v' e1 e2 e3=>?_⟩,fun y c e=>?_,I.free,I.freeC,fun p hp=>?_,fun b ob e=>?_,by simpa using I.len⟩
 ·exact(hs.2 b (Nat.ne_of_lt (Nat.lt_of_lt_of_le (Heap.lt_size e) I.ok.above))).trans (I.base.keep b o e n hb hx)
 ·obtain⟨sl,e1⟩:=I.base.slot b o e n hb hx;exact⟨sl,(hs.2 b (Nat.ne_of_lt (Nat.lt_of_lt_of_le (Heap.lt_size e) I.ok.above))).trans e1⟩
 ·obtain⟨o',e1⟩:=I.base.there b o e hx;exact⟨o',(hs.2 b (Nat.ne_of_lt (Nat.lt_of_lt_of_le (Heap.lt_size e) I.ok.above))).trans e1⟩
 ·have hij:i≠j:=fun z=>by
   subst z
   have l:i < σ.length:=by rw [I.len];exact(List.getElem?_eq_some_iff.mp hj).1
   rw [List.getElem?_set_self l]at e2;cases e2
  rw [List.getElem?_set_ne (Ne.symm hij)]at e2;obtain⟨u',r',q⟩:=hl i y v' e1 e2 e3;refine⟨u',r',?_⟩
  rcases q with⟨k,e⟩ | ⟨k,c,e,z⟩
  ·refine .inl ⟨k,?_⟩;have:y≠n:=fun e=>hij (Y3 hN e1 (e▸hj));simp [this,<-em,e]
  ·exact .inr ⟨k,c,e,z.sameBut hs (I.cne y c e)⟩
 ·obtain⟨w',z⟩:=I.cell y c e;exact⟨w',z.sameBut hs (I.cne y c e)⟩
 ·obtain⟨e,n,ne,nf,d⟩:=I.pin p hp;exact⟨(hs.2 p.1 ne).trans e,n,ne,nf,d⟩
 ·refine(I.hok b ob e).stay (fun c w' hc q=>(hs.2 c ?_).trans q) (fun _ q=>q) fun _ _ q=>q;rintro rfl
  rcases hc with hc | hc
  ·rw [<-hc,I.free]at e;cases e
  ·rw [I.free]at hc;cases hc
end
end L2
namespace L2
open PySem PySem.Spec PySem.W PyProof.Rows
theorem Qcv{K:PySem.W.Frag}{h:Heap}{C:Addr}{bmB:List Value}{newId:String}(X:K.In h)(q:excIn K C bmB newId=true):
  ∃ bm N nm q bs hdct sn sub ab col dd k0 k1 k2 k3 k5 mN, h.get? C = some (excClassObj nm q C N bs bm hdct sn sub ab col dd k0 k1 k2 k3 k5 newId) /\ h.Ns N mN /\ mN "__init__" = none /\ OwnTail h bmB bm := by
 unfold excIn at q;split at q
 ·rename_i dd cd sl ho;split at q
  ·rename_i C' bm k0 k1 k2 k3 n k5 hm hs;simp only [Bool.and_eq_true,beq_iff_eq,Bool.not_eq_true']at q;obtain⟨⟨⟨⟨⟨rfl,rfl⟩,hdel⟩,ht⟩,hok⟩,hni⟩:=q;obtain⟨nm,bs,mro,ns,qn,hd,sn,sub,ab,col,del⟩:=cd;dsimp only at hm hdel hok hni;subst hm hdel
   have hsl:sl=#[k0,k1,k2,k3,some (.builtin n),k5]:=by
    obtain⟨l⟩:=sl;simp only at hs;rw [hs]
   subst hsl;exact⟨bm,ns,nm,qn,bs,hd,sn,sub,ab,col,dd,k0,k1,k2,k3,k5,_,X _ _ ho,.of_isNs (isNs_of_in X hok),nsMap_none_of_in X hok hni,tail_of_in X ht⟩
  ·cases q
 ·cases q
noncomputable def Qbv:List Value:=[.type "ValueError",.type "Exception",.type "BaseException",.type "object"]
section
variable {X:Cx}{C:Addr}{x:Str}{np cpos pos:Pos}{args:List Expr}{t:TA}{W:Hp->Prop}
noncomputable def QhU(t:TA)(W:Hp->Prop):TS:=fun _ σ H=>t σ H fun vs H1=>vs.length<=sizeLine/\W H1
theorem Qea{e₀:Expr}{rest:List Expr}(q:excIn X.K C Qbv "ValueError.__new__"=true) (hg:Gl X x) (hm:X.mg x=some (.ref C)) (hc:X.calm=true) (ha:PA X (e₀::rest) t)
  (hw:∀pins σ H s h' e vs,Inv X pins σ H s->Heap.MadeExcOf s.heap h' e (.ref C) vs->W H->X.xe (.ref e) { s with heap:=h' })
  (he:starEach (e₀::rest) X.env=(false,eval e₀ X.env)::starEach rest X.env) (hpl:(backTo cpos (starEach rest X.env)).any (·.1)=false) (hdb:(x==("__debug__":Str))=false):
  PS X (.Raise (some (.Call (.Name x np) (e₀::rest) [] cpos)) none pos) (QhU t W):=by
 intro pins s σ H D I h;obtain⟨tl,N,nm,qn,bs,hdct,sn,sub,ab,col,dd,k0,k1,k2,k3,k5,mN,hC,hN,hni,T⟩:=Qcv I.ok.mod.kin q
 refine wpAny_Raise_call_subT (C:=C) (nm:=nm) (q:=qn) (N:=N) (bs:=bs) (bm:=tl) (hdct:=hdct) (sn:=sn) (sub:=sub) (ab:=ab) (col:=col) (dd:=dd) (k0:=k0) (k1:=k1) (k2:=k2) (k3:=k3) (k5:=k5)
  PySem.F.excBase_ValueError (mN:=mN) (T.hasType PySem.F.excBase_ValueError.hasBase) (I.ok.hd hc) (by rw [he];show(false||(backTo cpos (starEach rest X.env)).any (·.1))=false;rw [hpl];rfl) hni (Zj I hg hm ⟨rfl,?_⟩ hdb)
 have h':=ha cpos pins s σ H _ I h;rw [he]at h' ⊢;refine Calls.evalArgs_plain (wpAny_mono h' (fun us s₂ ⟨vs,H1,I1,r,l,w⟩=>?_) fun _ _ y=>y)
 exact⟨rfl,by rw [<-r.length];exact l,I1.bk _ _ hC,hN.keeps I1.bk,T.keeps I1.bk,fun h' e mx=>hw pins σ H1 s₂ h' e us I1 mx w⟩
theorem QbO(q:excIn X.K C Qbv "ValueError.__new__"=true) (hg:Gl X x) (hm:X.mg x=some (.ref C)) (hc:X.calm=true)
  (hw:∀pins σ H s h' e vs,Inv X pins σ H s->Heap.MadeExcOf s.heap h' e (.ref C) vs->W H->X.xe (.ref e) { s with heap:=h' }) (hdb:(x==("__debug__":Str))=false):
  PS X (.Raise (some (.Call (.Name x np) [] [] cpos)) none pos) (fun _ _ H=>W H):=by
 intro pins s σ H D I h;obtain⟨tl,N,nm,qn,bs,hdct,sn,sub,ab,col,dd,k0,k1,k2,k3,k5,mN,hC,hN,hni,T⟩:=Qcv I.ok.mod.kin q
 refine wpAny_Raise_call_subT (C:=C) (nm:=nm) (q:=qn) (N:=N) (bs:=bs) (bm:=tl) (hdct:=hdct) (sn:=sn) (sub:=sub) (ab:=ab) (col:=col) (dd:=dd) (k0:=k0) (k1:=k1) (k2:=k2) (k3:=k3) (k5:=k5)
  PySem.F.excBase_ValueError (mN:=mN) (T.hasType PySem.F.excBase_ValueError.hasBase) (I.ok.hd hc) rfl hni (Zj I hg hm ⟨rfl,?_⟩ hdb)
 exact evalArgs_empty ⟨rfl,Nat.zero_le _,I.bk _ _ hC,hN.keeps I.bk,T.keeps I.bk,fun h' e mx=>hw pins σ H s h' e [] I mx h⟩
end
section
variable {X:Cx}{pins:List (Addr×Obj)}{σ:St}{H H':Hp}{s s':Shared}{e C C':Addr}{B:Heap}{a0:Value}{x n y:Str}{i j:Nat}{np py pn pa pos:Pos}{Q:Flow->Shared->Prop}{E:Value->Shared->Prop}
theorem Qjb(hst:X.stack=X.env::X.outer)(hf:X.env.frame=some X.env.locals)(hN:X.N.Nodup)(I:Inv X pins σ H s)(os:s'.os=s.os)(bare:AllBare s'.gens)(un:Un (frs X.stack) [] H H' s.heap s'.heap)(hok:HOk X.prog X.w H' s'.heap)
  (fl:Heap.FlyingW B X.stack e (.ref C) a0 s'.heap) (cv:Cov B H' s X.stack) (hn:H' e=none) (hs0:s.heap.get? e=none) (h00:X.s₀.heap.get? e=none)
  (hg:Gl X x) (hm:X.mg x=some (.ref C')) (hx:exmOne X.K (.ref C) (.ref C')=some true) (hdb:(x==("__debug__":Str))=false)
  (hj:X.N[j]?=some n) (kn:X.env.scope.names.lookup n=some .local) (hi:X.N[i]?=some y) (ky:X.env.scope.names.lookup y=some .local) (hij:i≠j) (hd1:(n==("__debug__":Str))=false)
  (hsw:swapsWith (.Name n pn) (some (.Name y py)) pa.line X.env=pure false)
  (k:∀s'',Inv X pins ((σ.set i (some (.ref e))).set j none) (upd H' e (Qfo e C)) s''->Q .next s''):
  wpAny (model X.prog X.w) X.A (noteFrame (.ref e) X.env) (fun _ s₂=>wpAny (model X.prog X.w) X.A (setFlight (.ref e) none) (fun _ s₃ =>
   wpAny (model X.prog X.w) X.A (handleBy (.ref e) X.env [.ExceptHandler (some (.Name x np)) (some n) [.Assign [.Name y py] (.Name n pn) pa] pos]) Q E s₃) E s₂) E s':=by
 have ff:=I.stack;have fr:=I.stkFree
 have at_:∀h2,Heap.FlyingW B X.stack e (.ref C) a0 h2->s'.heap.UpToSlots h2->∀tk,Inv X pins σ H' { s' with heap:=h2,toks:=tk }:=fun h2 f2 up tk=>by
  obtain⟨un2,hok2⟩:=Qe5 un hok ff fr fl.1 f2.1 up cv
  exact I.call' (s':={ s' with heap:=h2,toks:=tk }) (ch:=[]) os un2 hok2 bare (fun b z=>absurd z (by simp))
 rw [hst]at fl;refine wpAny_looks_onW (hst▸I.ok.frames) hf fl fun h₄ hl₄ up₄=>?_;refine wpAny_landsW hl₄ fun h₅ fl₅ up₅'=>?_;have up₅:=up₄.trans up₅';have J5:=at_ h₅ (hst▸fl₅) up₅ s'.toks
 have er:∀{h:Heap},Heap.FlyingW B (X.env::X.outer) e (.ref C) a0 h->Yz e C h:=fun {h} f=>by
  obtain⟨_,_,_,oe,vs,T,oT,ts,he,hc,hd,_⟩:=f;exact⟨oe,vs,he,hc.1,hd⟩
 refine wpAny_handleBy_cons (codeAny_handlers_test ?_) (by intro z;cases z)
 refine Calls.Name_function_global I.ok.kind hg (Calls.loadGlobal_global (by rw [I.ok.glob];exact J5.mod.glob.keeps J5.bk) hm ?_) hdb
 refine(exm_one (M:=model X.prog X.w) J5.kIn (YO (er fl₅)) hx).here ?_;refine codeAny_handlers_suite_as ?_;refine lands_againW fl₅ fun h₆ fl₆ up₆=>?_;have J6:=at_ h₆ (hst▸fl₆) (up₅.trans up₆) s'.toks
 have cne:∀z c,X.env.cells.lookup z=some c->c≠e:=fun z c q w=>by
  obtain⟨v,o,ho,_⟩:=I.cell z c q;rw [w,hs0]at ho;cases ho
 have hL:e≠X.env.locals:=fun w=>by
  obtain⟨m,⟨o,_,_,ho,_⟩,_⟩:=I.loc;rw [<-w,hs0]at ho;cases ho
 have hp:∀p∈X.pn++pins,p.1≠e:=fun p q w=>by
  have:=(I.pin p q).1;rw [w,hs0]at this;cases this
 have J6':Inv X pins σ (upd H' e (Qfo e C)) { s' with heap:=h₆ }:=J6.adopt hn h00 hL cne hp (Qi3 (er fl₆));refine Z5 (v:=.ref e) J6' hN hj (.inl kn) rfl (fun s7 J7=>?_) (.inr kn)
 have lj:j < σ.length:=by rw [I.len];exact(List.getElem?_eq_some_iff.mp hj).1
 refine wpAny_execs_cons ?_;refine wpAny_Assign_Name ?_ hsw;obtain⟨m,hnm,hl⟩:=J7.loc;obtain⟨u,r,l⟩:=hl j n (.ref e) hj (List.getElem?_set_self lj) (.inl kn)
 have hmn:m n=some u:=by
  rcases l with⟨_,q⟩ | ⟨q,_⟩
  ·exact q
  ·have kk:X.env.kindOf n=some .local:=kn;rw [kk]at q
   rcases q with q | q<;>cases q
 refine wpAny_Name (wpAny_loadName_local I.ok.kind kn hnm hmn ?_) hd1;refine Z5 (v:=.ref e) J7 hN hi (.inl ky) r (fun s8 J8=>?_) (.inr ky);refine wpAny_execs_nil ?_;obtain⟨m8,hn8,_⟩:=J8.loc
 refine wpAny_nameGoes_keeps kn hn8 (by rw [I.ok.kind];rfl) fun h' v hv hs=>?_
 have J9:=J8.gone (t:=s8.toks+1) hN hj kn hn8 hv hs;refine k _ ?_
 have e2:((σ.set j (some (V.ref e))).set i (some (V.ref e))).set j none=(σ.set i (some (V.ref e))).set j none:=by
  rw [List.set_comm _ _ (Ne.symm hij),List.set_set]
 rw [e2]at J9;exact J9
end
end L2
namespace Iv
open PySem
inductive U where
 | non | bl (b:Bool) | int (i:Int) (m:Nat) | str (x:List Nat) | ref (n:Nat) | con (k:Nat) | scr
 deriving DecidableEq,Inhabited
inductive O where
 | lst (xs:List U) | tup (xs:List U) | ins (C:Nat) (fs:List (Nat×U)) | dic (kvs:List (U×U)) | dct (kvs:List (List U×U)) | fzd (kvs:List (U×U)) | err (c:Nat)
 deriving DecidableEq,Inhabited
noncomputable abbrev Hs:=List O
noncomputable abbrev Rho:=List (Option U)
inductive Bi where
 | len | int | str | tuple | list | sum | any | all | max | min | abs | sorted
 deriving DecidableEq,Inhabited
inductive Bm where
 | append | pop | clear | reverse | extend | setdef | get | update | join | split | find | insert | index
 deriving DecidableEq,Inhabited
inductive Ty where
 | non | bool | int | str | list | tuple | dict | cls (c:Nat) | vale
 deriving DecidableEq,Inhabited
mutual
inductive E where
 | c (u:U) | var (i:Nat) | con (k:Nat)
 | op (o:Operator) (a b:E) | neg (a:E) | cmp (o:CmpOp) (a b:E)
 | and (a b:E) | or (a b:E) | not (a:E) | ife (t a b:E)
 | tup (es:List E) | lst (es:List E) | dis (kvs:List (U×U)) (b:E)
 | ix (a b:E) | tab (k:Nat) (b:E) | sl (a:E) (lo hi:Option E) | rev (a:E) | tupR (es:List E)
 | fld (a:E) (f:Nat)
 | call (f:Nat) (es:List E) | meth (m:Nat) (o:E) (es:List E) | make (k:Nat) (es:List E)
 | bi (b:Bi) (es:List E) | isi (a:E) (t:Ty) | bm (b:Bm) (o:E) (es:List E)
 | comp (s:Src) (b:Bool) (t:Option E) (el:E) | dnew | dnewT | zap (e:E) | dsp (ks:List U) (es:List E) | chain (o o':CmpOp) (a b c:E)
inductive Src where
 | seq (e:E) | rng (a:E) | rng2 (a b:E) | rngA (es:List E) | zip (a b:E) | revd (e:E) | enm (e:E)
inductive Tg where
 | name (i:Nat) | pair (i j:Nat)
end
inductive S where
 | pass | expr (e:E) | set (i:Nat) (e:E) | fld (o:E) (f:Nat) (e:E) | ret (e:E) | retN
 | ite (t:E) (a b:List S) | loop (t:Tg) (s:Src) (body:List S) | loopC (i:Nat) (e:E) (body:List S) | loopK (i:Nat) (e:E) (body:List S) | loopD (i:Nat) (e:E) (body:List S) | while (t:E) (body:List S)
 | brk | cont
 | aug (i:Nat) (o:Operator) (e:E) | bad
 | put (o i e:E) | unp (i j:Nat) (e:E) | par (i j:Nat) (a b:E)
 | rse (c:Nat) (es:List E) | tryE (i j f:Nat) (es:List E) (c:Nat)
inductive Fl where
 | next | brk | cont | ret (u:U)
structure Fn where
 name:Str
 qual:Str
 st:Stmt
 ps:List Str
 N:List Str
 np:Nat
 nN:Nat
 lc:Bool
 body:List S
structure Cl where
 name:Str
 init:Option Nat
 meths:List (Nat×Nat)
 subs:List Nat
inductive Co where
 | tup (xs:List U) | lst (xs:List U) | tab (kvs:List (U×U))
 deriving Inhabited
structure Df where
 ps:List Str
 np:Nat
 last:Str
 ds:List U
structure Tbl where
 fns:List Fn
 cls:List Cl
 cons:List Co
 fns':List Str
 mns:List Str
 scr:List U
 isi:List ((Ty×Ty)×Bool)
 dfl:List (Nat×Df)
 dts:List Str:=[]
 zps:List Str:=[]
 ld:Bool:=false
 ers:List Nat:=[]
 esb:List (Nat×Nat):=[]
 xf:Nat->List U->Hs->Option (Nat×Hs):=fun _ _ _=>none
noncomputable def bd{α β:Type}(o:Option (α×Hs))(f:α->Hs->Option β):Option β:=match o with
 | none=>none
 | some (a,h)=>f a h
theorem Qb{α β:Type}{o:Option (α×Hs)}{f:α->Hs->Option β}{r:β}(h:bd o f=some r):∃a h',o=some (a,h')/\f a h'=some r:=by
 unfold bd at h
 cases o with
 | none=>cases h
 | some p=>exact⟨p.1,p.2,rfl,h⟩
noncomputable def gz:Nat->Nat->Nat
 | 0,n=>n
 | m+1,n=>Nat.gcd (m+1) n
noncomputable def Qw(i:Int):Bool:=decide (-(2 ^ 64) < i)&&decide (i<2 ^ 64)
noncomputable def QcV(i:Int):Bool:=decide (i.natAbs<2 ^ 4096)
noncomputable def QlF:U->U->Option U
 | .int i m,.int j n=>some (.int (i-j) (gz m n))
 | _,_=>none
noncomputable def QaU:U->U->Option U
 | .int i 0,.int j 0=>if Qw i||Qw j||(QcV i&&QcV j)then some (.int (i*j) 0)else none
 | .int i (m+1),.int j 0=>if Qw j then some (.int (i*j) ((m+1)*j.natAbs))else none
 | _,_=>none
noncomputable def Ja:U->U->Option U
 | .int i 0,.int j 0=>if 0<j&&decide (j<1606938044258990275541962092341162602522202993782792835301376)then some (.int (i / j) 0)else none
 | .int i (m+1),.int j 0=>if 0<j&&decide (j<1606938044258990275541962092341162602522202993782792835301376)&&decide ((m+1) % j.toNat=0)then some (.int (i / j) ((m+1) / j.toNat))else none
 | _,_=>none
noncomputable def Qeq:U->U->Option U
 | .int i 0,.int j 0=>if 0<j then some (.int (i % j) 0)else none
 | .int i (m+1),.int j 0=>if 0<j&&decide ((m+1) % j.toNat=0)then some (.int (i % j) 0)else none
 | _,_=>none
noncomputable def QlT:U->U->Option U
 | .int i 0,.int j 0=>if 0<=j&&decide (j<=1000)&&Qw i then some (.int (i ^ j.toNat) 0)else none
 | _,_=>none
noncomputable def QkI(a b:Nat)(x y:O)(hs:Hs):Option (U×Hs):=match x,y with
 | .lst xs,.lst ys=>if xs.length+ys.length<=1000000 then some (.ref hs.length,hs++[.lst (xs++ys)])else none
 | .tup xs,.tup ys=>if xs.isEmpty then some (.ref b,hs)else if xs.length+ys.length<=1000000 then(if ys.isEmpty then some (.ref a,hs)else some (.ref hs.length,hs++[.tup (xs++ys)]))else none
 | _,_=>none
noncomputable def Qe1(u w:U)(hs:Hs):Option (U×Hs):=match u,w with
 | .int i m,.int j n=>some (.int (i+j) (gz m n),hs)
 | .str x,.str y=>if x.length+y.length<=1000000 then some (.str (x++y),hs)else none
 | .ref a,.ref b=>match hs[a]?,hs[b]? with
  | some x,some y=>QkI a b x y hs
  | _,_=>none
 | _,_=>none
noncomputable def QlJ(a:Nat)(w:U)(hs:Hs):Option (U×Hs):=match hs[a]?,w with
 | some (.lst xs),.int k 0=>if -9223372036854775808<=k/\k<9223372036854775808/\xs.length*k.toNat<=1000000 then some (.ref hs.length,hs++[.lst (List.replicate k.toNat xs).flatten])else none
 | _,_=>none
noncomputable def opU(o:Operator)(u w:U)(hs:Hs):Option (U×Hs):=match o with
 | .Add=>Qe1 u w hs
 | .Sub=>(QlF u w).map fun r=>(r,hs)
 | .Mult=>(match u with
  | .ref a=>QlJ a w hs
  | u=>(QaU u w).map fun r=>(r,hs))
 | .FloorDiv=>(Ja u w).map fun r=>(r,hs)
 | .Mod=>(Qeq u w).map fun r=>(r,hs)
 | .Pow=>(QlT u w).map fun r=>(r,hs)
 | _=>none
noncomputable def eqS:U->U->Option Bool
 | .int i 0,.int j 0=>some (decide (i=j))
 | .str x,.str y=>some (decide (x=y))
 | .bl a,.bl b=>some (decide (a=b))
 | .non,.non=>some true
 | .non,.int _ _=>some false | .int _ _,.non=>some false | .non,.bl _=>some false | .bl _,.non=>some false | .non,.str _=>some false | .str _,.non=>some false
 | .int _ _,.str _=>some false | .str _,.int _ _=>some false | .bl _,.str _=>some false | .str _,.bl _=>some false
 | _,_=>none
noncomputable def ZB(T:Tbl)(u:U)(hs:Hs):Option (List U):=match u with
 | .ref n=>match hs[n]? with
  | some (.lst xs)=>some xs
  | some (.tup xs)=>some xs
  | _=>none
 | .con k=>match T.cons[k]? with
  | some (.lst xs)=>some xs
  | some (.tup xs)=>some xs
  | _=>none
 | .scr=>some T.scr
 | _=>none
noncomputable def YD:U->Bool
 | .int _ 0=>true
 | .str _=>true
 | .non=>true
 | _=>false
noncomputable def eqF:U->U->Bool
 | .int i _,.int j _=>decide (i=j)
 | .str x,.str y=>decide (x=y)
 | .non,.non=>true
 | _,_=>false
noncomputable def inU(x:U)(ys:List U):Option Bool:=if YD x&&ys.all YD then some (ys.any fun y=>eqF y x)else none
noncomputable def Zg(T:Tbl)(u:U)(hs:Hs):Option (List U):=match u with
 | .ref n=>match hs[n]? with
  | some (.lst xs)=>some xs
  | _=>none
 | .con k=>match T.cons[k]? with
  | some (.lst xs)=>some xs
  | _=>none
 | .scr=>some T.scr
 | _=>none
noncomputable def YW(T:Tbl)(u:U)(hs:Hs):Option (List U):=match u with
 | .ref n=>match hs[n]? with
  | some (.tup xs)=>some xs
  | _=>none
 | .con k=>match T.cons[k]? with
  | some (.tup xs)=>some xs
  | _=>none
 | _=>none
noncomputable def okW(T:Tbl):Nat->U->Hs->Bool
 | 0,_,_=>false
 | n+1,u,hs=>match Zg T u hs with
  | some xs=>xs.all fun x=>okW T n x hs
  | none=>match YW T u hs with
   | some xs=>xs.all fun x=>okW T n x hs
   | none=>match u with
    | .non=>true
    | .bl _=>true
    | .int _ m=>m==0
    | .str x=>x.all fun c=>decide (c<128)
    | _=>false
noncomputable def eqB:U->U->Bool
 | .non,.non=>true
 | .bl a,.bl b=>a==b
 | .bl a,.int j _=>(if a then 1 else 0)==j
 | .int i _,.bl b=>i==(if b then 1 else 0)
 | .int i _,.int j _=>i==j
 | .str x,.str y=>x==y
 | _,_=>false
noncomputable def eqW(T:Tbl):Nat->U->U->Hs->Bool
 | 0,_,_,_=>false
 | n+1,u,w,hs=>match Zg T u hs with
  | some xs=>(match Zg T w hs with
   | some ys=>(xs.length==ys.length)&&(xs.zip ys).all fun p=>eqW T n p.1 p.2 hs
   | none=>false)
  | none=>match YW T u hs with
   | some xs=>(match Zg T w hs with
    | some _=>false
    | none=>match YW T w hs with
     | some ys=>(xs.length==ys.length)&&(xs.zip ys).all fun p=>eqW T n p.1 p.2 hs
     | none=>false)
   | none=>(match Zg T w hs with
    | some _=>false
    | none=>match YW T w hs with
     | some _=>false
     | none=>eqB u w)
noncomputable def Qev(T:Tbl)(u w:U)(hs:Hs):Bool:=match Zg T u hs,Zg T w hs with
 | some xs,some ys=>decide (xs.length≠ys.length)
 | _,_=>false
noncomputable def Qd3(T:Tbl)(u w:U)(hs:Hs):Bool:=match Zg T u hs,Zg T w hs with
 | some xs,some ys=>decide (xs=ys)&&xs.all fun x=>match x with | .ref _=>true | _=>false
 | _,_=>false
noncomputable def eqA(T:Tbl)(u w:U)(hs:Hs):Option Bool:=match eqS u w with
 | some b=>some b
 | none=>if Qev T u w hs=true then some false else if Qd3 T u w hs=true then some true else if okW T 20 u hs&&okW T 20 w hs then some (eqW T 20 u w hs)else none
noncomputable def ZC(kvs:List (U×U))(k:U):Option U:=match kvs with
 | []=>none
 | (x,v)::r=>if x=k then some v else ZC r k
noncomputable def Y5:U->Bool
 | .int _ 0=>true
 | .str _=>true
 | _=>false
noncomputable def Z0{κ:Type}[DecidableEq κ](kvs:List (κ×U))(k:κ):Option U:=(kvs.find? fun p=>decide (p.1=k)).map (·.2)
noncomputable def Qfd{κ:Type}[DecidableEq κ](kvs:List (κ×U))(k:κ)(v:U):List (κ×U):=if(kvs.any fun p=>decide (p.1=k))=true then kvs.map (fun p=>if p.1=k then(p.1,v)else p)else kvs++[(k,v)]
noncomputable def tkU(w:U)(hs:Hs):Option (List U):=match w with
 | .ref m=>(match hs[m]? with
  | some (.tup ks)=>if ks.all Y5=true then some ks else none
  | _=>none)
 | _=>none
noncomputable def Qaq(o:O)(w:U)(hs:Hs):Option (Option U):=match o with
 | .dic kvs=>if Y5 w=true then some (Z0 kvs w)else none
 | .fzd kvs=>if Y5 w=true then some (Z0 kvs w)else none
 | .dct kvs=>(tkU w hs).map fun k=>Z0 kvs k
 | _=>none
noncomputable def QeQ(n:Nat)(o:O)(k u:U)(hs:Hs):Option Hs:=match o with
 | .dic kvs=>if Y5 k=true/\kvs.length<1000000 then some (hs.set n (.dic (Qfd kvs k u)))else none
 | .dct kvs=>if kvs.length<1000000 then(tkU k hs).map fun t=>hs.set n (.dct (Qfd kvs t u))else none
 | _=>none
noncomputable def Qb9(kvs more:List (U×U)):List (U×U):=more.foldl (fun acc p=>Qfd acc p.1 p.2) kvs
noncomputable def inS(x y:List Nat):Bool:=!(Builtin.Str.occurrences ⟨y.toArray⟩ ⟨x.toArray⟩ 0 (Str.length ⟨y.toArray⟩) 1).isEmpty
noncomputable def Qe8(T:Tbl)(w u:U):Option Bool:=match w with
 | .con k=>(match T.cons[k]? with
  | some (.tab kvs)=>if Y5 u=true then some (ZC kvs u).isSome else none
  | _=>none)
 | .str y=>(match u with
  | .str x=>some (inS x y)
  | _=>none)
 | _=>none
noncomputable def inD(T:Tbl)(w u:U)(hs:Hs):Option Bool:=match w with
 | .ref n=>(match hs[n]? with
  | some o=>(Qaq o u hs).map Option.isSome
  | none=>none)
 | w=>Qe8 T w u
noncomputable def Zv(T:Tbl)(o:CmpOp)(u w:U)(hs:Hs):Option Bool:=match o with
 | .Eq=>eqA T u w hs
 | .NotEq=>(eqA T u w hs).map (!·)
 | .Lt=>match u,w with | .int i 0,.int j 0=>some (decide (i<j)) | _,_=>none
 | .LtE=>match u,w with | .int i 0,.int j 0=>some (decide (i<=j)) | _,_=>none
 | .Gt=>match u,w with | .int i 0,.int j 0=>some (decide (j<i)) | _,_=>none
 | .GtE=>match u,w with | .int i 0,.int j 0=>some (decide (j<=i)) | _,_=>none
 | .In=>match ZB T w hs with | some xs=>inU u xs | none=>inD T w u hs
 | .NotIn=>match ZB T w hs with | some xs=>(inU u xs).map (!·) | none=>(inD T w u hs).map (!·)
 | .Is=>match w with | .non=>some (decide (u=.non)) | _=>none
 | .IsNot=>match w with | .non=>some (!decide (u=.non)) | _=>none
noncomputable def YX(T:Tbl)(u:U)(hs:Hs):Option Bool:=match u with
 | .non=>some false
 | .bl b=>some b
 | .int i 0=>some (decide (i≠0))
 | .str x=>if x.length<=1000000 then some (!x.isEmpty)else none
 | u=>(ZB T u hs).map fun xs=>!xs.isEmpty
noncomputable def ixU(n:Nat)(i:Int):Option Nat:=if 0<=i then(if i<n then some i.toNat else none)else if -(n:Int)<=i then some (i+n).toNat else none
noncomputable def atU{α:Type}(xs:List α)(i:Int):Option α:=match ixU xs.length i with
 | some j=>xs[j]?
 | none=>none
noncomputable def Z4(T:Tbl)(u w:U)(hs:Hs):Option U:=match u,w with
 | .str x,.int i 0=>if x.length<=1000000 then(atU x i).map fun c=>.str [c]else none
 | .ref n,w=>match hs[n]?,w with
  | some (.lst xs),.int i 0=>atU xs i
  | some (.tup xs),.int i 0=>atU xs i
  | some o,w=>(Qaq o w hs).bind id
  | none,_=>none
 | u,.int i 0=>match ZB T u hs with
  | some xs=>atU xs i
  | none=>none
 | _,_=>none
noncomputable def QlC(T:Tbl)(k:Nat)(w:U):Option U:=match T.cons[k]? with
 | some (.tab kvs)=>if Y5 w then ZC kvs w else none
 | _=>none
noncomputable def Qbo(n d:Nat):Option Int->Nat
 | none=>d
 | some v=>if v<0 then(v+(n:Int)).toNat else min v.toNat n
noncomputable def Z6{α:Type}(xs:List α)(lo hi:Option Int):List α:=(xs.drop (Qbo xs.length 0 lo)).take (Qbo xs.length xs.length hi-Qbo xs.length 0 lo)
noncomputable def slU(T:Tbl)(u:U)(lo hi:Option Int)(hs:Hs):Option (U×Hs):=match u with
 | .scr=>some (.ref hs.length,hs++[.lst (Z6 T.scr lo hi)])
 | .ref n=>match hs[n]? with
  | some (.lst xs)=>some (.ref hs.length,hs++[.lst (Z6 xs lo hi)])
  | some (.tup xs)=>if Qbo xs.length 0 lo=0/\Qbo xs.length xs.length hi=xs.length then none else some (.ref hs.length,hs++[.tup (Z6 xs lo hi)])
  | _=>none
 | .str x=>if x.length<=1000000 then some (.str (Z6 x lo hi),hs)else none
 | _=>none
noncomputable def Ql4(n:Nat):List Nat:=(Nat.toDigits 10 n).map Char.toNat
noncomputable def Ql5(x:List Nat):Bool:=x.all (fun c=>decide (48<=c)&&decide (c<=57))&&!x.isEmpty&&decide (x.length<=640)
noncomputable def QkB(x:List Nat):Nat:=x.foldl (fun acc c=>acc*10+(c-48)) 0
noncomputable def Qcm:List U->Option (List Int)
 | []=>some []
 | .int i 0::r=>(Qcm r).map (i::·)
 | _=>none
noncomputable def QcT:List U->Option (List Bool)
 | []=>some []
 | .bl b::r=>(QcT r).map (b::·)
 | _=>none
noncomputable def QlW:List Int->Int->Int
 | [],z=>z
 | a::r,z=>QlW r (if a>z then a else z)
noncomputable def Qnc:List Int->Option Int
 | []=>none
 | z::r=>some (QlW r z)
noncomputable def QlV:List Int->Int->Int
 | [],z=>z
 | a::r,z=>QlV r (if a<z then a else z)
noncomputable def Qnb:List Int->Option Int
 | []=>none
 | z::r=>some (QlV r z)
noncomputable def itU(hs:Hs)(u:U):Option (List Int):=match u with
 | .ref m=>(match hs[m]? with
  | some (.tup (k::ks))=>Qcm (k::ks)
  | _=>none)
 | _=>none
noncomputable def QlY(hs:Hs):List U->Option (List (List Int))
 | []=>some []
 | u::us=>(itU hs u).bind fun k=>(QlY hs us).map fun ks=>k::ks
noncomputable def QjP(ks:List (List Int))(xs:List U):List U:=(L2.permK ks xs.length).map fun i=>xs.getD i .non
noncomputable def biL(T:Tbl)(b:Bi)(us:List U)(hs:Hs):Option (U×Hs):=match b,us with
 | .sum,[u]=>(Zg T u hs).bind fun xs=>(Qcm xs).map fun ns=>(.int ns.sum 0,hs)
 | .any,[u]=>(Zg T u hs).bind fun xs=>(QcT xs).map fun bs=>(.bl (bs.any id),hs)
 | .all,[u]=>(Zg T u hs).bind fun xs=>(QcT xs).map fun bs=>(.bl (bs.all id),hs)
 | .max,[u]=>(Zg T u hs).bind fun xs=>(Qcm xs).bind fun ns=>(Qnc ns).map fun m=>(.int m 0,hs)
 | .max,[.int i 0,.int j 0]=>some (.int (if j>i then j else i) 0,hs)
 | .min,[u]=>(Zg T u hs).bind fun xs=>(Qcm xs).bind fun ns=>(Qnb ns).map fun m=>(.int m 0,hs)
 | .min,[.int i 0,.int j 0]=>some (.int (if j<i then j else i) 0,hs)
 | .abs,[.int i 0]=>some (.int (if i<0 then -i else i) 0,hs)
 | .sorted,[u]=>(Zg T u hs).bind fun xs=>if xs.length<64 then(if xs.length<2 then some []else QlY hs xs).map fun ks=>(.ref hs.length,hs++[.lst (QjP ks xs)])else none
 | _,_=>none
noncomputable def biU(T:Tbl)(b:Bi)(us:List U)(hs:Hs):Option (U×Hs):=match b,us with
 | .len,[.str x]=>if x.length<=1000000 then some (.int x.length 0,hs)else none
 | .len,[u]=>(ZB T u hs).map fun xs=>(.int xs.length 0,hs)
 | .int,[.int i m]=>some (.int i m,hs)
 | .int,[.bl b]=>some (.int (if b then 1 else 0) 0,hs)
 | .int,[.str x]=>if Ql5 x then some (.int (QkB x:Nat) 0,hs)else none
 | .str,[.int i 0]=>if 0<=i&&decide (i.natAbs.log2<1920)then some (.str (Ql4 i.toNat),hs)else none
 | .tuple,[.ref n]=>match hs[n]? with
  | some (.lst xs)=>some (.ref hs.length,hs++[.tup xs])
  | some (.tup _)=>some (.ref n,hs)
  | _=>none
 | .list,[u]=>(ZB T u hs).map fun xs=>(.ref hs.length,hs++[.lst xs])
 | .len,_=>none
 | .int,_=>none
 | .str,_=>none
 | .tuple,_=>none
 | .list,_=>none
 | b,us=>biL T b us hs
noncomputable def Y4(u:U)(hs:Hs):Option Ty:=match u with
 | .non=>some .non
 | .bl _=>some .bool
 | .int _ _=>some .int
 | .str _=>some .str
 | .ref n=>match hs[n]? with
  | some (.lst _)=>some .list
  | some (.tup _)=>some .tuple
  | some (.dic _)=>some .dict
  | some (.dct _)=>some .dict
  | some (.ins c _)=>some (.cls c)
  | some (.err c)=>some (.cls c)
  | _=>none
 | _=>none
noncomputable def Qjs(k t:Ty):Option Bool:=match k,t with
 | .cls _,_=>none
 | _,.cls _=>none
 | .bool,.int=>some true
 | k,t=>some (decide (k=t))
noncomputable def JC(T:Tbl)(t:Ty)(u:U)(hs:Hs):Option Bool:=match Y4 u hs with
 | none=>none
 | some k=>match Qjs k t with
  | some b=>some b
  | none=>T.isi.lookup (k,t)
noncomputable def QhC:List U->Option (List (List Nat))
 | []=>some []
 | .str x::r=>(QhC r).map (x::·)
 | _=>none
noncomputable def Qky(x y:List Nat):Int:=match Builtin.Str.occurrences ⟨x.toArray⟩ ⟨y.toArray⟩ 0 x.length 1 with
 | i::_=>(i:Int)
 | []=>-1
noncomputable def bmL(b:Bm)(n:Nat)(xs:List U)(us:List U)(hs:Hs):Option (U×Hs):=match b,us with
 | .append,[u]=>if xs.length<1000000 then some (.non,hs.set n (.lst (xs++[u])))else none
 | .pop,[]=>match xs[xs.length-1]? with
  | some y=>some (y,hs.set n (.lst xs.dropLast))
  | none=>none
 | .clear,[]=>some (.non,hs.set n (.lst []))
 | .reverse,[]=>some (.non,hs.set n (.lst xs.reverse))
 | .extend,[.ref m]=>(match hs[m]? with
  | some (.lst ys)=>if xs.length+ys.length<=1000000 then some (.non,hs.set n (.lst (xs++ys)))else none
  | _=>none)
 | .insert,[.int i 0,u]=>if i=0/\xs.length<1000000 then some (.non,hs.set n (.lst (u::xs)))else none
 | _,_=>none
noncomputable def bmS(T:Tbl)(b:Bm)(x:List Nat)(us:List U)(hs:Hs):Option (U×Hs):=match b,us with
 | .join,[w]=>match Zg T w hs with
  | some ys=>match QhC ys with
   | some ts=>if ts.length*x.length+(ts.map List.length).sum<=1000000 then some (.str (QiR x ts),hs)else none
   | none=>none
  | none=>none
 | .split,[.str [c]]=>if x.length<=1000000 then some (.ref hs.length,hs++[.lst ((QbF c x).map .str)])else none
 | .find,[.str y]=>some (.int (Qky x y) 0,hs)
 | .index,[.str y]=>(match Builtin.Str.occurrences ⟨x.toArray⟩ ⟨y.toArray⟩ 0 (Str.length ⟨x.toArray⟩) 1 with
  | i::_=>some (.int (i:Int) 0,hs)
  | []=>none)
 | _,_=>none
noncomputable def bmD(b:Bm)(n:Nat)(kvs:List (U×U))(us:List U)(hs:Hs):Option (U×Hs):=match b with
 | .setdef=>(match us with
  | [k,v]=>if Y5 k=true/\kvs.length<1000000 then(match ZC kvs k with
   | some x=>some (x,hs)
   | none=>some (v,hs.set n (.dic (kvs++[(k,v)]))))else none
  | _=>none)
 | .get=>(match us with
  | [k,v]=>if Y5 k=true then some ((Z0 kvs k).getD v,hs)else none
  | _=>none)
 | .update=>(match us with
  | [.ref m]=>(match hs[m]? with
   | some (.dic more)=>if n≠m/\kvs.length+more.length<=1000000 then some (.non,hs.set n (.dic (Qb9 kvs more)))else none
   | _=>none)
  | _=>none)
 | _=>none
noncomputable def bmU(T:Tbl)(b:Bm)(o:U)(us:List U)(hs:Hs):Option (U×Hs):=match o with
 | .ref n=>match hs[n]? with
  | some (.lst xs)=>bmL b n xs us hs
  | some (.dic kvs)=>bmD b n kvs us hs
  | _=>none
 | .str x=>bmS T b x us hs
 | _=>none
noncomputable def bL:Bm->Bool
 | .setdef=>false | .get=>false | .update=>false | .join=>false | .split=>false | .find=>false | .index=>false | _=>true
noncomputable def bS:Bm->Bool
 | .join=>true | .split=>true | .find=>true | .index=>true | _=>false
noncomputable def bD:Bm->Bool
 | .setdef=>true | .get=>true | .update=>true | _=>false
noncomputable def Qjq(b:Bm)(u:U)(hs:Hs):Bool:=match u with
 | .ref n=>match hs[n]? with
  | some (.lst _)=>bL b
  | some (.dic _)=>bD b
  | _=>false
 | .str _=>bS b
 | _=>false
noncomputable def Qh6(f:Nat)(u:U):List (Nat×U)->List (Nat×U)
 | []=>[(f,u)]
 | (g,x)::r=>if g=f then(g,u)::r else(g,x)::Qh6 f u r
inductive Wk where
 | seqL (u:U) | seqT (u:U) | rng (lo:Int) (n:Nat) | zipB (b c:Bool) (x y:U) | revL (u:U) (n:Nat) | rngC (lo c:Int) (n:Nat) | enmL (u:U) | strW (x:List Nat)
inductive Im where
 | one (u:U) | two (u w:U)
noncomputable def sqU(T:Tbl)(b:Bool)(u:U)(hs:Hs):Option (List U):=if b then Zg T u hs else YW T u hs
noncomputable def two(xs ys:List U)(i:Nat):Option Im:=match xs[i]?,ys[i]? with
 | some x,some y=>some (.two x y)
 | _,_=>none
noncomputable def itm(T:Tbl)(k:Wk)(i:Nat)(hs:Hs):Option (Option Im):=match k with
 | .seqL u=>(Zg T u hs).map fun xs=>(xs[i]?).map .one
 | .seqT u=>(YW T u hs).map fun xs=>(xs[i]?).map .one
 | .rng lo n=>some (if i<n then some (.one (.int (lo+i) 0))else none)
 | .zipB b c x y=>match sqU T b x hs,sqU T c y hs with
  | some xs,some ys=>some (two xs ys i)
  | _,_=>none
 | .revL u n=>match Zg T u hs with
  | some xs=>if i<n then(match xs[n-1-i]? with | some x=>some (some (.one x)) | none=>none)else if i=n then some none else none
  | none=>none
 | .rngC lo c n=>some (if i<n then some (.one (.int (lo+i*c) 0))else none)
 | .enmL u=>(Zg T u hs).map fun xs=>(xs[i]?).map fun x=>.two (.int i 0) x
 | .strW x=>some ((x[i]?).map fun c=>.one (.str [c]))
noncomputable def Qj2(a b c:Int):Nat:=if a<b then((b-a-1) / c+1).toNat else 0
noncomputable def JX(T:Tbl)(k:Wk)(hs:Hs):Nat:=match k with
 | .seqL u=>((Zg T u hs).getD []).length+1
 | .seqT u=>((YW T u hs).getD []).length+1
 | .rng _ n=>n+1
 | .zipB b _ x _=>((sqU T b x hs).getD []).length+1
 | .revL _ n=>n+1
 | .rngC _ _ n=>n+1
 | .enmL u=>((Zg T u hs).getD []).length+1
 | .strW x=>x.length+1
noncomputable def tgt(t:Tg)(x:Im)(ρ:Rho)(hs:Hs):Option Rho:=match t,x with
 | .name i,.one u=>some (ρ.set i (some u))
 | .pair i j,.two u w=>some ((ρ.set i (some u)).set j (some w))
 | .pair i j,.one (.ref n)=>match hs[n]? with
  | some (.tup [u,w])=>some ((ρ.set i (some u)).set j (some w))
  | _=>none
 | _,_=>none
noncomputable abbrev Cf:=Nat->List U->Hs->Option (U×Hs)
noncomputable abbrev Ev:=E->Rho->Hs->Option (U×Hs)
noncomputable def evs(f:Ev)(ρ:Rho):List E->Hs->Option (List U×Hs)
 | [],hs=>some ([],hs)
 | e::es,hs=>bd (f e ρ hs) fun u h1=>bd (evs f ρ es h1) fun us h2=>some (u::us,h2)
noncomputable def evO(f:Ev)(ρ:Rho):Option E->Hs->Option (Option Int×Hs)
 | none,hs=>some (none,hs)
 | some e,hs=>bd (f e ρ hs) fun u h1=>match u with | .int i 0=>some (some i,h1) | _=>none
noncomputable def wkS(T:Tbl)(u:U)(hs:Hs):Option Wk:=match Zg T u hs with
 | some _=>some (.seqL u)
 | none=>match YW T u hs with
  | some _=>some (.seqT u)
  | none=>match u with
   | .str x=>some (.strW x)
   | _=>none
noncomputable def wkZ(T:Tbl)(u w:U)(hs:Hs):Option Wk :=
 let b:=(Zg T u hs).isSome;let c:=(Zg T w hs).isSome
 if(sqU T b u hs).isSome&&(sqU T c w hs).isSome then some (.zipB b c u w)else none
noncomputable def YH(T:Tbl)(f:Ev)(ρ:Rho):Src->Hs->Option (Wk×Hs)
 | .seq e,hs=>bd (f e ρ hs) fun u h1=>(wkS T u h1).map fun k=>(k,h1)
 | .rng a,hs=>bd (f a ρ hs) fun u h1=>match u with | .int i 0=>if Qw (i*4)then some (.rng 0 i.toNat,h1)else none | _=>none
 | .rng2 a b,hs=>bd (f a ρ hs) fun u h1=>bd (f b ρ h1) fun w h2=>match u,w with | .int i 0,.int j 0=>if Qw (i*4)&&Qw (j*4)then some (.rng i (j-i).toNat,h2)else none | _,_=>none
 | .rngA es,hs=>bd (evs f ρ es hs) fun us h1=>match us with
  | [.int i 0,.int j 0,.int c 0]=>if Qw (i*16)&&Qw (j*16)&&decide (0<c)&&decide (c<1073741824)then some (.rngC i c (Qj2 i j c),h1)else none
  | _=>none
 | .zip a b,hs=>bd (f a ρ hs) fun u h1=>bd (f b ρ h1) fun w h2=>(wkZ T u w h2).map fun k=>(k,h2)
 | .revd e,hs=>bd (f e ρ hs) fun u h1=>match Zg T u h1 with | some xs=>some (.revL u xs.length,h1) | none=>none
 | .enm e,hs=>bd (f e ρ hs) fun u h1=>match Zg T u h1 with | some _=>some (.enmL u,h1) | none=>none
noncomputable def Qbh(T:Tbl)(cf:Cf)(c:Nat)(us:List U)(hs:Hs):Option (U×Hs):=match T.cls[c]? with
 | none=>none
 | some C=>match C.init with
  | none=>if us=[]then some (.ref hs.length,hs++[.ins c []])else none
  | some f=>match cf f (.ref hs.length::us) (hs++[.ins c []])with
   | some (.non,h2)=>some (.ref hs.length,h2)
   | _=>none
noncomputable def Qer(T:Tbl)(m:Nat)(o:U)(hs:Hs):Option Nat:=match o with
 | .ref n=>match hs[n]? with
  | some (.ins c _)=>match T.cls[c]? with
   | some C=>C.meths.lookup m
   | none=>none
  | _=>none
 | _=>none
noncomputable def tgN(b:Bool)(n:Nat):Tg:=if b then .pair n (n+1)else .name n
noncomputable def Qir(b:Bool):Rho:=if b then [none,none]else [none]
noncomputable def QcL(T:Tbl)(f:Ev)(ft:Rho->Hs->Option (Bool×Hs))(w:Wk)(b:Bool)(el:E)(ρ:Rho):Nat->Nat->List U->Hs->Option (List U×Hs)
 | 0,_,_,_=>none
 | k+1,i,acc,hs=>match itm T w i hs with
  | none=>none
  | some none=>some (acc,hs)
  | some (some x)=>match tgt (tgN b ρ.length) x (ρ++Qir b) hs with
   | none=>none
   | some ρ'=>if acc.length<1000000 then bd (ft ρ' hs) fun c h1=>if c=true then bd (f el ρ' h1) fun u h2=>QcL T f ft w b el ρ k (i+1) (acc++[u]) h2 else QcL T f ft w b el ρ k (i+1) acc h1 else none
noncomputable def Qfn(ft:E->Rho->Hs->Option (Bool×Hs))(t:Option E)(ρ:Rho)(hs:Hs):Option (Bool×Hs):=match t with
 | none=>some (true,hs)
 | some e=>ft e ρ hs
noncomputable def QhW(a b c:Int):Option (List U):=if Qw (a*4)&&Qw (b*4)&&(decide (c=1)||decide (c=-1))then
  (let n:=if c=1 then(b-a).toNat else(a-b).toNat
    if n<=1000000 then some ((List.range n).map fun i:Nat=>.int (a+(i:Int)*c) 0)else none)else none
noncomputable def Qj1:List U->Option (List U)
 | [.int b 0]=>QhW 0 b 1
 | [.int a 0,.int b 0]=>QhW a b 1
 | [.int a 0,.int b 0,.int c 0]=>QhW a b c
 | _=>none
noncomputable def ZH:U->Bool
 | .ref _=>false
 | _=>true
mutual
noncomputable def ev(T:Tbl)(cf:Cf):Nat->Ev
 | 0,_,_,_=>none
 | d+1,e,ρ,hs=>match e with
  | .c u=>some (u,hs)
  | .con k=>some (.con k,hs)
  | .var i=>match ρ[i]? with
   | some (some u)=>some (u,hs)
   | _=>none
  | .op o a b=>bd (ev T cf d a ρ hs) fun u h1=>bd (ev T cf d b ρ h1) fun w h2=>opU o u w h2
  | .neg a=>bd (ev T cf d a ρ hs) fun u h1=>match u with | .int i m=>some (.int (-i) m,h1) | _=>none
  | .cmp o a b=>bd (ev T cf d a ρ hs) fun u h1=>bd (ev T cf d b ρ h1) fun w h2=>(Zv T o u w h2).map fun c=>(.bl c,h2)
  | .and a b=>bd (ev T cf d a ρ hs) fun u h1=>match u with | .bl true=>ev T cf d b ρ h1 | .bl false=>some (.bl false,h1) | _=>none
  | .or a b=>bd (ev T cf d a ρ hs) fun u h1=>match u with | .bl true=>some (.bl true,h1) | .bl false=>ev T cf d b ρ h1 | _=>none
  | .not a=>bd (ev T cf d a ρ hs) fun u h1=>(YX T u h1).map fun c=>(.bl (!c),h1)
  | .ife t a b=>bd (evT T cf d t ρ hs) fun c h1=>if c=true then ev T cf d a ρ h1 else ev T cf d b ρ h1
  | .tup es=>bd (evs (ev T cf d) ρ es hs) fun us h1=>some (.ref h1.length,h1++[.tup us])
  | .lst es=>bd (evs (ev T cf d) ρ es hs) fun us h1=>some (.ref h1.length,h1++[.lst us])
  | .dis kvs b=>bd (ev T cf d b ρ hs) fun w h1=>if Y5 w=true then(ZC kvs w).map fun x=>(x,h1)else none
  | .ix a b=>bd (ev T cf d a ρ hs) fun u h1=>bd (ev T cf d b ρ h1) fun w h2=>(Z4 T u w h2).map fun x=>(x,h2)
  | .tab k b=>bd (ev T cf d b ρ hs) fun w h1=>(QlC T k w).map fun x=>(x,h1)
  | .sl a lo hi=>bd (ev T cf d a ρ hs) fun u h1=>bd (evO (ev T cf d) ρ lo h1) fun l h2=>bd (evO (ev T cf d) ρ hi h2) fun r h3=>slU T u l r h3
  | .rev a=>bd (ev T cf d a ρ hs) fun u h1=>match Zg T u h1 with | some xs=>some (.ref h1.length,h1++[.lst xs.reverse]) | none=>none
  | .tupR es=>bd (evs (ev T cf d) ρ es hs) fun us h1=>match Qj1 us with | some xs=>some (.ref h1.length,h1++[.tup xs]) | none=>none
  | .fld a f=>bd (ev T cf d a ρ hs) fun u h1=>match u with
   | .ref n=>match h1[n]? with
    | some (.ins _ fs)=>(fs.lookup f).map fun x=>(x,h1)
    | _=>none
   | _=>none
  | .call f es=>bd (evs (ev T cf d) ρ es hs) fun us h1=>cf f us h1
  | .meth m o es=>bd (ev T cf d o ρ hs) fun u h1=>match Qer T m u h1 with
   | some f=>bd (evs (ev T cf d) ρ es h1) fun us h2=>cf f (u::us) h2
   | none=>none
  | .make c es=>bd (evs (ev T cf d) ρ es hs) fun us h1=>Qbh T cf c us h1
  | .bi b es=>bd (evs (ev T cf d) ρ es hs) fun us h1=>biU T b us h1
  | .isi a t=>bd (ev T cf d a ρ hs) fun u h1=>(JC T t u h1).map fun b=>(.bl b,h1)
  | .bm b o es=>bd (ev T cf d o ρ hs) fun u h1=>if Qjq b u h1=true then bd (evs (ev T cf d) ρ es h1) fun us h2=>bmU T b u us h2 else none
  | .comp s b t el=>bd (YH T (ev T cf d) ρ s hs) fun w h1=>bd (QcL T (ev T cf d) (Qfn (evT T cf d) t) w b el ρ (JX T w h1) 0 [] h1) fun us h2=>some (.ref h2.length,h2++[.lst us])
  | .dnew=>some (.ref hs.length,hs++[.dic []])
  | .dnewT=>some (.ref hs.length,hs++[.dct []])
  | .zap e=>match ev T cf d e ρ hs with
   | some (u,h1)=>if ZH u=true/\h1.take hs.length=hs then some (u,hs)else some (u,h1)
   | none=>none
  | .dsp ks es=>bd (evs (ev T cf d) ρ es (hs++[.dic []])) fun us h1=>match h1[hs.length]? with
   | some (.dic [])=>some (.ref hs.length,h1.set hs.length (.dic (Qb9 [] (ks.zip us))))
   | _=>none
  | .chain o o' a b c=>bd (ev T cf d a ρ hs) fun u h1=>bd (ev T cf d b ρ h1) fun w h2=>match Zv T o u w h2 with
   | some true=>bd (ev T cf d c ρ h2) fun x h3=>(Zv T o' w x h3).map fun k=>(.bl k,h3)
   | some false=>some (.bl false,h2)
   | none=>none
noncomputable def evT(T:Tbl)(cf:Cf):Nat->E->Rho->Hs->Option (Bool×Hs)
 | 0,_,_,_=>none
 | d+1,e,ρ,hs=>match e with
  | .not a=>bd (evT T cf d a ρ hs) fun c h1=>some (!c,h1)
  | .and a b=>bd (evT T cf d a ρ hs) fun c h1=>if c=true then evT T cf d b ρ h1 else some (false,h1)
  | .or a b=>bd (evT T cf d a ρ hs) fun c h1=>if c=true then some (true,h1)else evT T cf d b ρ h1
  | e=>bd (ev T cf d e ρ hs) fun u h1=>(YX T u h1).map fun b=>(b,h1)
end
noncomputable abbrev Ex:=Rho->Hs->Option (Fl×Rho×Hs)
noncomputable def Qal(T:Tbl)(w:Wk)(t:Tg)(body:Ex):Nat->Nat->Ex
 | 0,_,_,_=>none
 | k+1,i,ρ,hs=>match itm T w i hs with
  | none=>none
  | some none=>some (.next,ρ,hs)
  | some (some x)=>match tgt t x ρ hs with
   | none=>none
   | some ρ'=>match body ρ' hs with
    | some (.next,ρ2,h2)=>Qal T w t body k (i+1) ρ2 h2
    | some (.cont,ρ2,h2)=>Qal T w t body k (i+1) ρ2 h2
    | some (.brk,ρ2,h2)=>some (.next,ρ2,h2)
    | r=>r
noncomputable def Qnr:Option U->Option U
 | some (.ref _)=>none
 | o=>o
noncomputable def frg(ρ:Rho):Rho:=ρ.map Qnr
noncomputable def QgZ(i:Nat)(body:Ex):List U->Rho->Option (Fl×Rho)
 | [],ρ=>some (.next,ρ)
 | x::xs,ρ=>match body (ρ.set i (some x)) []with
  | some (.next,ρ2,_)=>QgZ i body xs (frg ρ2)
  | some (.cont,ρ2,_)=>QgZ i body xs (frg ρ2)
  | some (.brk,ρ2,_)=>some (.next,frg ρ2)
  | some (.ret u,ρ2,_)=>if ZH u=true then some (.ret u,frg ρ2)else none
  | none=>none
noncomputable def JE(n:Nat):Option U->Option U
 | some (.ref k)=>if k<n then some (.ref k)else none
 | o=>o
noncomputable def frgN(n:Nat)(ρ:Rho):Rho:=ρ.map (JE n)
noncomputable def Qc1(hs:Hs)(i:Nat)(body:Ex):List U->Rho->Option (Fl×Rho)
 | [],ρ=>some (.next,ρ)
 | x::xs,ρ=>match body (ρ.set i (some x)) hs with
  | some (fl,ρ2,h2)=>if h2.take hs.length=hs then(match fl with
   | .next=>Qc1 hs i body xs (frgN hs.length ρ2)
   | .cont=>Qc1 hs i body xs (frgN hs.length ρ2)
   | .brk=>some (.next,frgN hs.length ρ2)
   | .ret u=>if ZH u=true then some (.ret u,frgN hs.length ρ2)else none)else none
  | none=>none
noncomputable def Qfm(i:Nat)(body:Ex):List U->Ex
 | [],ρ,hs=>some (.next,ρ,hs)
 | k::ks,ρ,hs=>match body (ρ.set i (some k)) hs with
  | some (.next,ρ2,h2)=>Qfm i body ks ρ2 h2
  | some (.cont,ρ2,h2)=>Qfm i body ks ρ2 h2
  | some (.brk,ρ2,h2)=>some (.next,ρ2,h2)
  | r=>r
noncomputable def Qg2(u:U)(hs h1:Hs):Option (Nat×List (U×U)):=match u with
 | .ref n=>(match hs[n]? with
  | some (.dic _)=>(match h1[n]? with
   | some (.dic kvs)=>some (n,kvs)
   | _=>none)
  | _=>none)
 | _=>none
noncomputable def Qht(n:Nat)(r:Option (Fl×Rho×Hs)):Option (Fl×Rho×Hs):=match r with
 | some (fl,ρ,hs)=>(match hs[n]? with
  | some (.fzd kvs)=>some (fl,ρ,hs.set n (.dic kvs))
  | _=>none)
 | none=>none
noncomputable def Qbu(test:Rho->Hs->Option (Bool×Hs))(body:Ex):Nat->Ex
 | 0,_,_=>none
 | k+1,ρ,hs=>match test ρ hs with
  | none=>none
  | some (false,h1)=>some (.next,ρ,h1)
  | some (true,h1)=>match body ρ h1 with
   | some (.next,ρ2,h2)=>Qbu test body k ρ2 h2
   | some (.cont,ρ2,h2)=>Qbu test body k ρ2 h2
   | some (.brk,ρ2,h2)=>some (.next,ρ2,h2)
   | r=>r
noncomputable def Qor(o:Operator)(u w:U):Option U:=match o with
 | .Add=>(match u,w with | .int i 0,.int j 0=>some (.int (i+j) 0) | _,_=>none)
 | .Sub=>(match u,w with | .int i 0,.int j 0=>some (.int (i-j) 0) | _,_=>none)
 | _=>none
noncomputable def QlS(x k u:U)(hs:Hs):Option Hs:=match x with
 | .ref n=>(match hs[n]? with
  | some (.lst xs)=>(match k with
   | .int j 0=>(ixU xs.length j).map fun p=>hs.set n (.lst (xs.set p u))
   | _=>none)
  | some o=>QeQ n o k u hs
  | none=>none)
 | _=>none
mutual
noncomputable def ex(T:Tbl)(cf:Cf):Nat->S->Ex
 | 0,_,_,_=>none
 | d+1,s,ρ,hs=>match s with
  | .pass=>some (.next,ρ,hs)
  | .bad=>none
  | .aug i o e=>match ρ[i]? with
   | some (some u)=>bd (ev T cf d e ρ hs) fun w h1=>(Qor o u w).map fun r=>(.next,ρ.set i (some r),h1)
   | _=>none
  | .brk=>some (.brk,ρ,hs)
  | .cont=>some (.cont,ρ,hs)
  | .expr e=>bd (ev T cf d e ρ hs) fun _ h1=>some (.next,ρ,h1)
  | .set i e=>bd (ev T cf d e ρ hs) fun u h1=>some (.next,ρ.set i (some u),h1)
  | .fld o f e=>bd (ev T cf d e ρ hs) fun u h1=>bd (ev T cf d o ρ h1) fun x h2=>match x with
   | .ref n=>match h2[n]? with
    | some (.ins c fs)=>if fs.length<500 then some (.next,ρ,h2.set n (.ins c (Qh6 f u fs)))else none
    | _=>none
   | _=>none
  | .ret e=>bd (ev T cf d e ρ hs) fun u h1=>some (.ret u,ρ,h1)
  | .retN=>some (.ret .non,ρ,hs)
  | .ite t a b=>match evT T cf d t ρ hs with
   | some (true,h1)=>exs T cf d a ρ h1
   | some (false,h1)=>exs T cf d b ρ h1
   | none=>none
  | .loop t s body=>bd (YH T (ev T cf d) ρ s hs) fun w h1=>Qal T w t (exs T cf d body) (JX T w h1) 0 ρ h1
  | .loopC i e body=>bd (ev T cf d e ρ hs) fun u h1=>match Zg T u h1 with
   | some xs=>if xs.all ZH=true then(match QgZ i (exs T cf d body) xs (frg ρ)with
    | some (fl,ρ')=>some (fl,ρ',h1)
    | none=>none)else none
   | none=>none
  | .loopD i e body=>bd (ev T cf d e ρ hs) fun u h1=>match u with
   | .ref n=>(match h1[n]? with
    | some (.lst xs)=>if n=hs.length/\h1.take hs.length=hs/\xs.all ZH=true then(match Qc1 hs i (exs T cf d body) xs ρ with
     | some (fl,ρ')=>some (fl,ρ',hs)
     | none=>none)else none
    | _=>none)
   | _=>none
  | .loopK i e body=>bd (ev T cf d e ρ hs) fun u h1=>match Qg2 u hs h1 with
   | some (n,kvs)=>Qht n (Qfm i (exs T cf d body) (kvs.map (·.1)) ρ (h1.set n (.fzd kvs)))
   | none=>none
  | .while t body=>Qbu (evT T cf d t) (exs T cf d body) 1000000 ρ hs
  | .put o i e=>bd (ev T cf d e ρ hs) fun u h1=>bd (ev T cf d o ρ h1) fun x h2=>bd (ev T cf d i ρ h2) fun k h3=>(QlS x k u h3).map fun h4=>(.next,ρ,h4)
  | .unp i j e=>bd (ev T cf d e ρ hs) fun u h1=>(tgt (.pair i j) (.one u) ρ h1).map fun ρ'=>(.next,ρ',h1)
  | .par i j a b=>bd (ev T cf d a ρ hs) fun u h1=>bd (ev T cf d b ρ h1) fun w h2=>some (.next,(ρ.set i (some u)).set j (some w),h2)
  | .rse _ _=>none
  | .tryE i j f es c=>bd (evs (ev T cf d) ρ es hs) fun us h1=>match cf f us h1 with
   | some (_,h2)=>some (.next,ρ,h2)
   | none=>match T.xf f us h1 with
    | some (c',h2)=>if T.ers.contains c'=true/\T.esb.contains (c',c)=true/\(match T.fns[f]? with | some F=>decide (us.length=F.np) | none=>false)=true then some (.next,(ρ.set i (some (.ref h2.length))).set j none,h2++[.err c'])else none
    | none=>none
noncomputable def exs(T:Tbl)(cf:Cf):Nat->List S->Ex
 | 0,_,_,_=>none
 | d+1,ss,ρ,hs=>match ss with
  | []=>some (.next,ρ,hs)
  | s::r=>match ex T cf d s ρ hs with
   | some (.next,ρ1,h1)=>exs T cf d r ρ1 h1
   | x=>x
end
noncomputable def dd:Nat:=100
noncomputable def fin:Option (Fl×Rho×Hs)->Option (U×Hs)
 | some (.ret u,_,h)=>some (u,h)
 | some (.next,_,h)=>some (.non,h)
 | _=>none
noncomputable def QhX(us:List U)(n:Nat):Rho:=us.map some++List.replicate (n-us.length) none
noncomputable def Ql(T:Tbl):Nat->Cf
 | 0,_,_,_=>none
 | n+1,f,us,hs=>match T.fns[f]? with
  | none=>none
  | some F=>if us.length=F.np then fin (exs T (Ql T n) dd F.body (QhX us F.nN) hs)else none
mutual
noncomputable def exX(T:Tbl)(cf:Cf):Nat->S->Rho->Hs->Option (Nat×Hs)
 | 0,_,_,_=>none
 | d+1,s,ρ,hs=>match s with
  | .rse c es=>bd (evs (ev T cf d) ρ es hs) fun _ h1=>if T.ers.contains c=true/\es.length<=1000 then some (c,h1)else none
  | .ite t a b=>match evT T cf d t ρ hs with
   | some (true,h1)=>exsX T cf d a ρ h1
   | some (false,h1)=>exsX T cf d b ρ h1
   | none=>none
  | _=>none
noncomputable def exsX(T:Tbl)(cf:Cf):Nat->List S->Rho->Hs->Option (Nat×Hs)
 | 0,_,_,_=>none
 | d+1,ss,ρ,hs=>match ss with
  | []=>none
  | s::r=>match ex T cf d s ρ hs with
   | some (.next,ρ1,h1)=>exsX T cf d r ρ1 h1
   | some _=>none
   | none=>exX T cf d s ρ hs
end
noncomputable def Qau(T:Tbl):Nat->Nat->List U->Hs->Option (Nat×Hs)
 | 0,_,_,_=>none
 | n+1,f,us,hs=>match T.fns[f]? with
  | none=>none
  | some F=>if us.length=F.np then exsX T (Ql T n) dd F.body (QhX us F.nN) hs else none
end Iv
namespace Iv
open PySem
end Iv
namespace Iv
open PySem
inductive G where
 | fn (i:Nat) | cls (i:Nat) | con (k:Nat) | txt (x:List Nat)
structure Ctx where
 T:Tbl
 N:List Str
 names:List (Str×NameKind)
 gl:List (Str×G)
 bl:List Str
 lc:Bool:=false
noncomputable def idx(x:Str):List Str->Option Nat
 | []=>none
 | y::r=>if y=x then some 0 else(idx x r).map (· + 1)
noncomputable def QgG(C:Ctx)(x:Str):Bool:=match C.names.lookup x with
 | some .local=>true | some .cell=>true | some .free=>true | _=>false
noncomputable def Qak(C:Ctx)(x:Str):Bool:=match C.names.lookup x with
 | some .local=>true | some .cell=>true | _=>false
noncomputable def ZQ(C:Ctx)(x:Str):Bool:=match C.names.lookup x with
 | some .globalImplicit=>true | _=>false
noncomputable def Zs:Expr->Bool
 | .Call (.Name _ _) [] [] _=>false
 | _=>true
noncomputable def Zo:Expr->Bool
 | .Slice ..=>false
 | _=>true
noncomputable def Qjn(C:Ctx)(x:Str):Option Ty:=match C.gl.lookup x with
 | some (.cls i)=>some (.cls i)
 | some _=>none
 | none=>if C.bl.contains x=false then none else if x="int" then some .int else if x="str" then some .str else if x="bool" then some .bool else if x="list" then some .list else if x="tuple" then some .tuple else if x="dict" then some .dict else if x="ValueError" then some .vale else none
noncomputable def Qje(x:Str):Option Bi:=none
noncomputable def Qlr(C:Ctx)(x:Str):Option Bi:=match C.gl.lookup x with
 | some _=>none
 | none=>if C.bl.contains x=false then none else if x="len" then some .len else if x="int" then some .int else if x="str" then some .str else if x="tuple" then some .tuple else if x="list" then some .list else Qje x
noncomputable def Qjd(x:Str):Option Bm:=none
noncomputable def Qlp(x:Str):Option Bm:=if x="append" then some .append else Qjd x
noncomputable def Qff:E->Bool
 | .and _ _=>false
 | .or _ _=>false
 | .not _=>false
 | _=>true
noncomputable def okT:Expr->E->Bool
 | .BoolOp ..,_=>true
 | .UnaryOp .Not ..,_=>true
 | .Compare ..,_=>true
 | _,ir=>Qff ir
noncomputable def J1(C:Ctx)(f:Str)(args:List Expr):Option (List Expr):=if f="tuple" then(match args with
 | [.Call (.Name r _) ra [] _]=>if r="range"&&ZQ C r&&(C.gl.lookup r).isNone&&C.bl.contains r&&decide (ra.length<=3)&&decide (1<=ra.length)then some ra else none
 | _=>none)else none
noncomputable def Qai(C:Ctx)(f:Str)(args:List Expr):Option Expr:=if f="list" then(match args with
 | [.Call (.Name r _) [a] [] _]=>if r="reversed"&&ZQ C r&&(C.gl.lookup r).isNone&&C.bl.contains r then some a else none
 | _=>none)else none
noncomputable def Qas:Expr->Option U
 | .Constant (.int i) _ _=>some (.int i 0)
 | .Constant (.str x) _ _=>some (.str x.cps.toList)
 | _=>none
noncomputable def Qgy{α β:Type}(f:α->Option β):List α->Option (List β)
 | []=>some []
 | a::r=>(f a).bind fun b=>(Qgy f r).bind fun bs=>some (b::bs)
noncomputable def Jb:List (Option Expr)->Option (List U)
 | []=>some []
 | some k::ks=>(Qas k).bind fun k'=>(Jb ks).bind fun r=>some (k'::r)
 | none::_=>none
noncomputable def QeS:List (Option Expr)->List Expr->Option (List (U×U))
 | [],[]=>some []
 | some k::ks,v::vs=>(Qas k).bind fun k'=>(Qas v).bind fun v'=>(QeS ks vs).bind fun r=>if r.any (fun p=>decide (p.1=k'))then none else some ((k',v')::r)
 | _,_=>none
noncomputable def Ctx.inner(C:Ctx)(xs:List Str)(scope:Scope):Ctx:={ C with N:=L2.hideN xs C.N++xs,names:=L2.relN C.names scope.names,lc:=false }
noncomputable def JK(C:Ctx)(xs:List Str)(scope:Scope):Bool:=(scope.kind==.function)&&xs.all (fun x=>(scope.names.lookup x==some .local)&&(scope.names.lookup (L2.mang x)==none))&&decide (L2.hideN xs C.N++xs).Nodup&&scope.names.all (fun y=>match y.2 with
  | .local=>(xs.contains y.1||decide (y.1=".0"))&&(scope.names.lookup y.1==some .local)
  | .free=>(C.names.lookup y.1==some .cell)||(C.names.lookup y.1==some .free)
  | .cell=>false
  | _=>true)&&!(C.N.contains ".0")
noncomputable def Qjt:Src->Bool
 | .zip _ _=>true
 | .enm _=>true
 | _=>false
noncomputable def Qen:Src->Tg->Bool
 | .zip _ _,.name _=>false
 | .enm _,.name _=>false
 | .revd _,.pair _ _=>false
 | _,_=>true
noncomputable def QjF:Expr->Option (Bool×List Str)
 | .Name x _=>some (false,[x])
 | .Tuple es _ _=>(match es with
  | [a,b]=>(match a,b with
   | .Name x _,.Name y _=>some (true,[x,y])
   | _,_=>none)
  | _=>none)
 | _=>none
noncomputable def QlZ:List Expr->Option (Option Expr)
 | []=>some none
 | [t]=>some (some t)
 | _=>none
structure Gn where
 b:Bool
 xs:List Str
 iter:Expr
 tl:Option Expr
noncomputable def QgU:List Comprehension->Option Gn
 | [g]=>if g.is_async=0 then(QjF g.target).bind fun t=>(QlZ g.ifs).map fun tl=>⟨t.1,t.2,g.iter,tl⟩else none
 | _=>none
noncomputable def Qjw(tg:Expr)(b:Bool)(xs:List Str):Prop:=(b=false/\∃x p,tg=.Name x p/\xs=[x])\/(b=true/\∃x p y q k pt,tg=.Tuple [.Name x p,.Name y q] k pt/\xs=[x,y])
theorem QfE{tg:Expr}{b:Bool}{xs:List Str}(h:QjF tg=some (b,xs)):Qjw tg b xs:=by
 unfold QjF at h;split at h
 ·cases h;exact .inl ⟨rfl,_,_,rfl,rfl⟩
 ·split at h
  ·split at h
   ·cases h;exact .inr ⟨rfl,_,_,_,_,_,_,rfl,rfl⟩
   ·cases h
  ·cases h
 ·cases h
theorem Qbm{gens:List Comprehension}{g:Gn}(h:QgU gens=some g):∃tg,gens=[⟨tg,g.iter,g.tl.toList,0⟩]/\Qjw tg g.b g.xs:=by
 unfold QgU at h;split at h
 ·rename_i c;split at h
  ·rename_i e;simp only [Option.bind_eq_some_iff,Option.map_eq_some_iff]at h;obtain⟨⟨b,xs⟩,h1,tl,h2,rfl⟩:=h;obtain⟨tg,iter,ifs,ia⟩:=c;simp only at e h1 h2;subst e;refine⟨tg,?_,QfE h1⟩
   have:ifs=tl.toList:=by
    unfold QlZ at h2;split at h2<;>cases h2<;>rfl
   rw [this]
  ·cases h
 ·cases h
inductive Sl where
 | cut (lo hi:Option Expr) | rev | bad
noncomputable def Qks:Expr->Bool
 | .UnaryOp .USub (.Constant (.int 1) _ _) _=>true
 | _=>false
noncomputable def QfN:Expr->Option Sl
 | .Slice lo hi st _=>(match st with
  | none=>some (.cut lo hi)
  | some e=>if Qks e&&lo.isNone&&hi.isNone then some .rev else some .bad)
 | _=>none
inductive He where
 | tab (ks:List (Option Expr)) (vs:List Expr) | nm (x:Str) | any
noncomputable def Qi0:Expr->He
 | .Dict ks vs _=>.tab ks vs
 | .Name x _=>.nm x
 | _=>.any
noncomputable def Qhv(C:Ctx)(x:Str):Option Nat:=if ZQ C x&&decide (x≠"__debug__")then(match C.gl.lookup x with
 | some (.con k)=>(match C.T.cons[k]? with | some (.tab _)=>some k | _=>none)
 | _=>none)else none
noncomputable def Qkg(C:Ctx)(i:Nat)(es:List E):Option E:=match C.T.dfl.lookup i with
 | none=>some (.call i es)
 | some D=>if es.length<=D.np/\D.np<=es.length+D.ds.length then some (.call i (es++(D.ds.drop (D.ds.length-(D.np-es.length))).map .c))else none
mutual
noncomputable def Qh:Nat->Ctx->Expr->Option E
 | 0,_,_=>none
 | m+1,C,e=>match e with
  | .Constant (.int i) _ _=>some (.c (.int i 0))
  | .Constant (.bool b) _ _=>some (.c (.bl b))
  | .Constant .none _ _=>some (.c .non)
  | .Constant (.str x) _ _=>some (.c (.str x.cps.toList))
  | .Name x _ => if x = "__debug__" \/ x = "__classdict__" then none else if QgG C x then (idx x C.N).map .var else if ZQ C x then (match C.gl.lookup x with | some (.con k) => some (.con k) | some (.txt t) => some (.c (.str t)) | _ => none) else none
  | .BinOp a o b _=>(Qh m C a).bind fun a'=>(Qh m C b).bind fun b'=>some (.op o a' b')
  | .UnaryOp .USub a _=>(Qh m C a).bind fun a'=>some (.neg a')
  | .UnaryOp .Not a _=>(compT m C a).bind fun a'=>some (.not a')
  | .BoolOp .And (a::r) p=>compAnd m C a r p
  | .BoolOp .Or (a::r) p=>compOr m C a r p
  | .Compare a [o] [b] _=>(Qh m C a).bind fun a'=>(Qh m C b).bind fun b'=>some (.cmp o a' b')
  | .IfExp t a b _=>(compT m C t).bind fun t'=>(Qh m C a).bind fun a'=>(Qh m C b).bind fun b'=>some (.ife t' a' b')
  | .Tuple es _ _=>if es.length<=1000000 then(compA m C es).bind fun es'=>some (.tup es')else none
  | .List es _=>if es.length<=1000000 then(compA m C es).bind fun es'=>some (.lst es')else none
  | .Subscript a b _=>match QfN b with
   | some (.cut lo hi)=>(Qh m C a).bind fun a'=>(compO m C lo).bind fun l=>(compO m C hi).bind fun h=>some (.sl a' l h)
   | some .rev=>(Qh m C a).bind fun a'=>some (.rev a')
   | some .bad=>none
   | none=>(Qh m C b).bind fun b'=>match Qi0 a with
    | .tab ks vs=>if decide (ks.length<=15)&&!ks.isEmpty then(QeS ks vs).bind fun kvs=>some (.dis kvs b')else none
    | .nm x=>(match Qhv C x with | some k=>some (.tab k b') | none=>(Qh m C a).bind fun a'=>some (.ix a' b'))
    | .any=>(Qh m C a).bind fun a'=>some (.ix a' b')
  | .Attribute a f _=>if Zs a then(Qh m C a).bind fun a'=>(idx f C.T.fns').bind fun k=>some (.fld a' k)else none
  | .Call (.Name f _) args [] _ => if f = "__debug__" \/ f = "__name__" \/ ZQ C f = false then none else match C.gl.lookup f with
   | some (.fn i)=>(compA m C args).bind fun es=>Qkg C i es
   | some (.cls i)=>(compA m C args).bind fun es=>some (.make i es)
   | some (.con _)=>none
   | some (.txt _)=>none
   | none=>if C.bl.contains f=false then none else if f="isinstance" then(match args with
     | [a, .Name t _] => if ZQ C t /\ t ≠ "__debug__" /\ t ≠ "__name__" then (Qh m C a).bind fun a' => (Qjn C t).bind fun ty => some (.isi a' ty) else none
     | _=>none)
    else match J1 C f args with
     | some ra=>(compA m C ra).bind fun es=>some (.tupR es)
     | none=>match Qai C f args with
      | some a=>(Qh m C a).bind fun a'=>some (.rev a')
      | none=>(Qlr C f).bind fun b=>(compA m C args).bind fun es=>some (.bi b es)
  | .Call (.Attribute o x p) args [] q=>if Zs o&&(p.endLine==q.line)&&decide (args.length<29)then match idx x C.T.mns with
   | some k=>(Qh m C o).bind fun o'=>(compA m C args).bind fun es=>some (.meth k o' es)
   | none=>(Qlp x).bind fun b=>(Qh m C o).bind fun o'=>(compA m C args).bind fun es=>some (.bm b o' es)else none
  | .ListComp elt gens scope _=>(match QgU gens with
   | some g=>if JK C g.xs scope then(compSrc m C g.iter).bind fun src=>if Qen src (tgN g.b 0)then(compTO m (C.inner g.xs scope) g.tl).bind fun t=>(Qh m (C.inner g.xs scope) elt).bind fun el=>some (.comp src g.b t el)else none else none
   | none=>none)
  | .Dict [] [] _=>some .dnew
  | .Dict ks vs _=>(Jb ks).bind fun kk=>if kk.length=vs.length/\kk.length<=15/\kk≠[]then(Qgy (Qh m C) vs).bind fun es=>some (.dsp kk es)else none
  | _=>none
noncomputable def compT:Nat->Ctx->Expr->Option E
 | 0,_,_=>none
 | m+1,C,e=>match e with
  | .IfExp ..=>none
  | .NamedExpr ..=>none
  | e=>(Qh m C e).bind fun ir=>if okT e ir then some ir else none
noncomputable def compTO:Nat->Ctx->Option Expr->Option (Option E)
 | 0,_,_=>none
 | m+1,C,none=>some none
 | m+1,C,some e=>(compT m C e).bind fun e'=>some (some e')
noncomputable def compAnd:Nat->Ctx->Expr->List Expr->Pos->Option E
 | 0,_,_,_,_=>none
 | m+1,C,a,r,p=>match r with
  | []=>compT m C a
  | b::r=>(compT m C a).bind fun a'=>(compAnd m C b r p).bind fun b'=>some (.and a' b')
noncomputable def compOr:Nat->Ctx->Expr->List Expr->Pos->Option E
 | 0,_,_,_,_=>none
 | m+1,C,a,r,p=>match r with
  | []=>compT m C a
  | b::r=>(compT m C a).bind fun a'=>(compOr m C b r p).bind fun b'=>some (.or a' b')
noncomputable def compA:Nat->Ctx->List Expr->Option (List E)
 | 0,_,_=>none
 | m+1,C,es=>match es with
  | []=>some []
  | e::r=>(Qh m C e).bind fun e'=>(compA m C r).bind fun r'=>some (e'::r')
noncomputable def compO:Nat->Ctx->Option Expr->Option (Option E)
 | 0,_,_=>none
 | m+1,C,none=>some none
 | m+1,C,some e=>(Qh m C e).bind fun e'=>some (some e')
noncomputable def compSrc:Nat->Ctx->Expr->Option Src
 | 0,_,_=>none
 | m+1,C,e=>match e with
  | .Call (.Name f p) args [] q=>if ZQ C f then(match C.gl.lookup f with
   | some _=>(Qh m C (.Call (.Name f p) args [] q)).map .seq
   | none=>if C.bl.contains f=false then none else if f="range" then(match args with
     | [a]=>(Qh m C a).map .rng
     | [a,b]=>(Qh m C a).bind fun a'=>(Qh m C b).map fun b'=>.rng2 a' b'
     | _=>none)
    else if f="zip" then(match args with
     | [a,b]=>(Qh m C a).bind fun a'=>(Qh m C b).map fun b'=>.zip a' b'
     | _=>none)
    else(Qh m C (.Call (.Name f p) args [] q)).map .seq)else none
  | e=>(Qh m C e).map .seq
end
noncomputable def YS(C:Ctx):Expr->Option Tg
 | .Name x _=>if Qak C x then(idx x C.N).map .name else none
 | .Tuple [.Name x _,.Name y _] _ _=>if Qak C x&&Qak C y&&decide (x≠y)then(idx x C.N).bind fun i=>(idx y C.N).map fun j=>.pair i j else none
 | _=>none
noncomputable def Qkz:Expr->Option Bool
 | .Constant c _ _=>(match c with | .str _=>some true | _=>none)
 | .ListComp ..=>some false
 | _=>none
inductive As where
 | nm (x:Str) | at (o:Expr) (f:Str) | sub (o i:Expr) | two (x:Str) (p:Pos) (y:Str) (q:Pos)
noncomputable def Qbw:Expr->Expr->Option As
 | .Name x p,.Name y q=>some (.two x p y q)
 | _,_=>none
noncomputable def as1:Expr->Option As
 | .Name x _=>some (.nm x)
 | .Attribute o f _=>some (.at o f)
 | .Subscript o i _=>some (.sub o i)
 | .Tuple es _ _=>(match es with | [a,b]=>Qbw a b | _=>none)
 | _=>none
noncomputable def Qhg:List Expr->Option As
 | [t]=>as1 t
 | _=>none
noncomputable def Qkr(C:Ctx)(tg:Expr)(t:Tg):Option Nat:=match tg with
 | .Name x _=>(match t with | .name i=>if C.T.dts.contains x then some i else none | _=>none)
 | _=>none
noncomputable def ZM(C:Ctx)(x:Str):Bool:=match C.names.lookup x with
 | some .local=>true | _=>false
noncomputable def Qfh:Expr->Option (Expr×Expr)
 | .Tuple es _ _=>(match es with | [a,b]=>some (a,b) | _=>none)
 | _=>none
noncomputable def Qfj:Expr->Bool
 | .Tuple ..=>false
 | _=>true
noncomputable def Qck:Expr->Bool
 | .Dict [] [] _=>true
 | _=>false
noncomputable def QiH:Expr->Bool
 | .ListComp ..=>false
 | _=>true
noncomputable def Qhm(C:Ctx)(x:Str)(e0:Expr)(e:E):E:=if(C.T.zps.contains x&&QiH e0)=true then .zap e else e
noncomputable def QfV(C:Ctx)(e f:Option Expr):Option (Nat×List Expr):=match e,f with
 | some (.Call (.Name x _) args [] _),none=>if ZQ C x&&decide (x≠"__debug__")then(match C.gl.lookup x with
  | some (.cls c)=>if C.T.ers.contains c then some (c,args)else none
  | _=>none)else none
 | _,_=>none
structure Tr where
 i:Nat
 j:Nat
 f:Nat
 args:List Expr
 c:Nat
noncomputable def Qc9(C:Ctx)(n y:Str):Option (Nat×Nat):=if ZM C n&&ZM C y&&decide (n≠y)&&decide (n≠"__debug__")then(idx y C.N).bind fun i=>(idx n C.N).bind fun j=>some (i,j)else none
noncomputable def Qdd(C:Ctx)(x:Str):Option Nat:=if ZQ C x&&decide (x≠"__debug__")then(match C.gl.lookup x with | some (.cls c)=>some c | _=>none)else none
noncomputable def Qdb(C:Ctx)(x:Str):Option Nat:=if ZQ C x&&decide (x≠"__debug__")then(match C.gl.lookup x with | some (.fn i)=>some i | _=>none)else none
noncomputable def Qc7(C:Ctx)(b:List Stmt)(hs:List ExceptHandler)(o fn:List Stmt):Option Tr:=match b,hs,o,fn with
 | [.Expr (.Call (.Name f _) (a::args) [] _) _],[.ExceptHandler (some (.Name x _)) (some n) [.Assign [.Name y _] (.Name n' _) _] _],[],[]=>if n'=n then
   (Qc9 C n y).bind fun p=>(Qdd C x).bind fun c=>(Qdb C f).bind fun k=>some ⟨p.1,p.2,k,a::args,c⟩else none
 | _,_,_,_=>none
mutual
noncomputable def Q6:Nat->Ctx->Stmt->Option S
 | 0,_,_=>none
 | m+1,C,s=>match s with
  | .Pass _=>some .pass
  | .Break _=>some .brk
  | .Continue _=>some .cont
  | .Expr e _=>(match Qkz e with
   | some true=>some .pass
   | some false=>none
   | none=>(Qh m C e).map .expr)
  | .Return v _=>(match v with
   | none=>some .retN
   | some e=>(Qh m C e).map .ret)
  | .Assign ts e _=>(match Qhg ts with
   | some (.nm x)=>if Qak C x then(idx x C.N).bind fun i=>if Qck e&&C.T.dts.contains x then some (.set i .dnewT)else(Qh m C e).bind fun e'=>some (.set i (Qhm C x e e'))else none
   | some (.at o f)=>if Zs o then(Qh m C e).bind fun e'=>(Qh m C o).bind fun o'=>(idx f C.T.fns').bind fun k=>some (.fld o' k e')else none
   | some (.sub o i)=>if Zo i then(Qh m C e).bind fun e'=>(Qh m C o).bind fun o'=>(Qh m C i).bind fun i'=>some (.put o' i' e')else none
   | some (.two x p y q)=>if ZM C x&&ZM C y&&decide (x≠y)then(idx x C.N).bind fun i=>(idx y C.N).bind fun j=>(match Qfh e with
     | some _=>none
     | none=>if Qfj e then(Qh m C e).map (.unp i j)else none)else none
   | none=>none)
  | .Raise e f _=>(match QfV C e f with
   | some (c,args)=>(compA m C args).bind fun es=>some (.rse c es)
   | none=>some .bad)
  | .Try b hs o fn _=>(Qc7 C b hs o fn).bind fun t=>(compA m C t.args).bind fun es=>some (.tryE t.i t.j t.f es t.c)
  | .If t a b _=>(compT m C t).bind fun t'=>(compSs m C a).bind fun a'=>(compSs m C b).bind fun b'=>some (.ite t' a' b')
  | .For tg it a [] _=>(YS C tg).bind fun tg'=>(compSrc m C it).bind fun it'=>match Qkr C tg tg' with
   | some i=>(Qh m C it).bind fun e=>(compSs m C a).bind fun a'=>some (.loopK i e a')
   | none=>if Qen it' tg' then(compSs m C a).bind fun a'=>(match C.lc,tg',it' with | true,.name i,.seq (.sl (.var 0) lo hi)=>some (if C.T.ld=true then .loopD i (.sl (.var 0) lo hi) a' else .loopC i (.sl (.var 0) lo hi) a') | _,_,_=>some (.loop tg' it' a'))else none
  | _=>none
noncomputable def compSs:Nat->Ctx->List Stmt->Option (List S)
 | 0,_,_=>none
 | m+1,C,ss=>match ss with
  | []=>some []
  | s::r=>(Q6 m C s).bind fun s'=>(compSs m C r).bind fun r'=>some (s'::r')
end
end Iv
namespace L2
open PySem PySem.Spec PyProof.Rows
section
variable {X:Cx}
noncomputable def Qh3(K:PySem.W.Frag):R2:=fun x y H Q=>∃a b ys,x=.ref a/\y=.ref b/\SqT K H a []/\SqT K H b ys/\Q (.ref b) H
theorem Qek:OpR X (binaryOp .Add) (Qh3 X.K):=by
 intro pins s σ H x y v u Q I rx ry h;obtain⟨a,b,ys,rfl,rfl,ha,hb,q⟩:=h;cases rx;cases ry;obtain⟨i1,r1,ht,_⟩:=I.tuple ha;obtain⟨i2,r2,hb,_⟩:=I.tuple hb;cases r1;obtain⟨⟨cls,dd,data,sl⟩,ho,hc,n,hd⟩:=id ht;obtain⟨⟨cls2,dd2,data2,sl2⟩,ho2,hc2,n2,hd2⟩:=id hb;simp only at hc hd hc2 hd2;subst hc hd hc2 hd2
 exact concat_meets ⟨_,ho,rfl⟩ ⟨_,ho2,rfl⟩ noFill_tuple_add seq_tuple_add PySem.F.slot_tuple_add PySem.F.entry_tuple_add (PySem.F.args_tuple_add_2 _ _)
  (tuple_addW0 a b _ _ n n2 dd dd2 sl sl2 (by simp)) ⟨ho,ho2,⟨.ref b,H,I.tok _,rfl,q⟩⟩
structure Mk0(K:PySem.W.Frag)(C:Addr):Prop where
 makes:PySem.W.makesIn K C=true
 init:PySem.W.findIn K (.ref C) "__init__"=some (some (.builtin "object.__init__"))
 kp:PySem.W.keepIn K (.ref C)=true
noncomputable def QfI(C:Addr):TE:=fun _ H Q=>∀x dx,H x=none->H dx=none->dx≠x->Q (.ref x) (upd (upd H dx (.own x)) x (.ins C dx []))
theorem Qa8{pins:List (Addr×Obj)}{σ:St}{H:Hp}{s:Shared}{Q:VK}{C:Addr}(M:Mk0 X.K C)(I:Inv X pins σ H s)
  (h:∀x dx,H x=none->H dx=none->dx≠x->Q (.ref x) (upd (upd H dx (.own x)) x (.ins C dx []))):
  wpAny (model X.prog X.w) X.A (call (.ref C) []) (EP X pins σ Q) X.xe s:=by
 have hq:=h (s.heap.objs.size+1) s.heap.objs.size (I.hok.fresh (Nat.le_succ _)) (I.hok.fresh (Nat.le_refl _)) (Nat.ne_of_lt (Nat.lt_succ_self _));have I2:=Inv.made (C:=C) I;have Y:=PySem.W.makes_of (M:=model X.prog X.w) I.kIn M.makes
 have hob:((s.heap.push PySem.W.emptyDict).push (PySem.W.instObj C s.heap.objs.size)).get? (s.heap.objs.size+1)=some (PySem.W.instObj C s.heap.objs.size):=by
  have e:(s.heap.push PySem.W.emptyDict).objs.size=s.heap.objs.size+1:=Heap.size_push ..;rw [<-e];exact Heap.get?_push_size _ rfl
 have t1:PySem.W.Looks (model X.prog X.w) ((s.heap.push PySem.W.emptyDict).push (PySem.W.instObj C s.heap.objs.size)) (typeOf (.ref (s.heap.objs.size+1))) (.ref C):=(PySem.W.Looks.ld hob).andThen .now
 have t2:PySem.W.Looks (model X.prog X.w) ((s.heap.push PySem.W.emptyDict).push (PySem.W.instObj C s.heap.objs.size)) (isInstance (.ref (s.heap.objs.size+1)) (.type "object")) true :=
  t1.andThen (Y.top.keeps fun b o e=>Heap.get?_push_of_some _ (Heap.get?_push_of_some _ e))
 refine wpAny_call (Qca I.kIn M.makes M.init (fun self=>PySem.W.Looks.of_pure (PySem.W.oi_bind self)) ?_);obtain⟨hh,g,d,t,os⟩:=s;refine codeAny_call_builtin PySem.W.oi_plain PySem.W.entry_oi (@PySem.W.check_slot (model X.prog X.w) _ _ _ "object.__init__" "object" "__init__" (.ref (hh.objs.size+1)) [] [] _ PySem.W.oi_kind PySem.W.oi_split t2 (PySem.W.oi_args (.ref (hh.objs.size+1))) ?_);rw [PySem.W.oi_run];exact wpAny_pure (And.intro rfl ⟨V.ref (hh.objs.size+1),_,I2,rfl,hq⟩)
theorem QbX{C:Addr}{x:Str}{p pos:Pos}(M:Mk0 X.K C)(hg:Gl X x)(hm:X.mg x=some (.ref C))(hdb:(x==("__debug__":Str))=false:=by decide):PE X (.Call (.Name x p) [] [] pos) (QfI C):=by
 intro pins s σ H Q I h;refine wpAny_Call_Name_kw (Zj I hg hm ?_ hdb);exact PySem.W.callWith_K0 I.kIn M.kp (Qa8 M I h)
noncomputable def QkF:V->Option Value
 | .ty n=>some (.type n)
 | .ref a=>some (.ref a)
 | _=>none
noncomputable def TyE(K:PySem.W.Frag)(H:Hp)(x:V)(t:Value):Prop:=TyOf K H x t\/∃a C,x=.ref a/\t=.ref C/\H a=some (Qfo a C)/\ErrCls K C
theorem QeX : CallR X (.builtin "isinstance") (fun xs H Q => ∃ x c cv t b, xs = [x, c] /\ QkF c = some cv /\ TyE X.K H x t /\ PySem.W.kitOne X.K t cv = some b /\ Q (.bl b) H) := by
 intro pins s σ H xs us Q I r h;obtain⟨x,c,cv,t,b,rfl,hc,ty,e,q⟩:=h
 rcases ty with ty | ⟨a,C,rfl,rfl,ha,Y⟩
 case inr=>exact QcQ pins s σ H _ us Q I r ⟨a,c,cv,C,b,rfl,by unfold QkF at hc;exact hc,ha,Y,e,q⟩
 obtain⟨u,w',rfl,rx,rc⟩:=QfB r
 have ec:w'=cv:=by
  cases c with
  | ty n=>cases(show w'=Value.type n from rc);exact Option.some.inj hc
  | ref a=>cases(show w'=Value.ref a from rc);exact Option.some.inj hc
  | _=>cases hc
 subst ec;exact Qci I rx ty e fun tk=>⟨.bl b,H,I.tok tk,rfl,q⟩
end
end L2
namespace Iv
open PySem PySem.Spec PyProof.Rows L2
noncomputable abbrev St:=L2.St
structure Adr where
 f:Nat->Addr
 c:Nat->Addr
 k:Nat->Addr
 s:Addr
noncomputable def Cg(i r:Int)(m:Nat):Prop:=∃q:Int,i=r+m*q
theorem Cg.exact{i r:Int}(h:Cg i r 0):i=r:=by obtain⟨q,e⟩:=h;simpa using e
theorem Cg.refl(i:Int)(m:Nat):Cg i i m:=⟨0,by simp⟩
noncomputable def RU(A:Adr)(α:List Addr):U->V->Prop
 | .non,v=>v=.non
 | .bl b,v=>v=.bl b
 | .int r m,v=>∃i,v=.int i/\Cg i r m
 | .str x,v=>v=.str ⟨x.toArray⟩
 | .ref n,v=>∃a,α[n]?=some a/\v=.ref a
 | .con k,v=>v=.ref (A.k k)
 | .scr,v=>v=.ref A.s
noncomputable abbrev RUs(A:Adr)(α:List Addr):List U->List V->Prop:=Paired (RU A α)
noncomputable def RF(T:Tbl)(A:Adr)(α:List Addr):List (Nat×U)->List (Str×V)->Prop:=Paired fun p q=>T.fns'[p.1]?=some q.1/\RU A α p.2 q.2
noncomputable def RK:U->Key->Prop
 | .int i m,k=>m=0/\k=Sum.inl i
 | .str x,k=>k=Sum.inr ⟨x.toArray⟩
 | _,_=>False
noncomputable def RD(A:Adr)(α:List Addr):List (U×U)->List (Key×V)->Prop:=Paired fun p q=>RK p.1 q.1/\RU A α p.2 q.2
noncomputable abbrev RKs:List U->List Key->Prop:=Paired RK
noncomputable def RT(A:Adr)(α:List Addr):List (List U×U)->List (List Key×V)->Prop:=Paired fun p q=>RKs p.1 q.1/\RU A α p.2 q.2
noncomputable def RO(T:Tbl)(A:Adr)(α:List Addr)(H:Hp)(a:Addr):O->Prop
 | .lst xs=>∃vs,H a=some (.lst vs)/\RUs A α xs vs
 | .tup xs=>∃vs,H a=some (.tup vs)/\RUs A α xs vs
 | .ins c fs=>∃dx fv,H a=some (.ins (A.c c) dx fv)/\RF T A α fs fv/\c<T.cls.length
 | .dic kvs=>∃kv,H a=some (.dK kv)/\RD A α kvs kv
 | .dct kvs=>∃kv,H a=some (.dT kv)/\RT A α kvs kv
 | .fzd kvs=>∃kv ob,H a=some (.frz ob (.dK kv))/\RD A α kvs kv
 | .err c=>H a=some (Qfo a (A.c c))/\T.ers.contains c=true
structure RH(T:Tbl)(A:Adr)(α:List Addr)(hs:Hs)(H:Hp):Prop where
 len:α.length=hs.length
 nd:α.Nodup
 ob:∀(n:Nat) a o,α[n]?=some a->hs[n]?=some o->RO T A α H a o
noncomputable def Qlw(K:PySem.W.Frag)(H:Hp)(a:Addr)(xs:List V):Prop:=(∃o,H a=some (.frz o (.lst xs))) \/
 ∃ (o : Obj) (its : Array Value) (n : Nat), K.lookup a = some o /\ o.cls = .type "list" /\ o.dict = none /\ o.data = .seq its n /\ its.size <= sizeLine /\ Vals xs its.toList
noncomputable def Scr(T:Tbl)(A:Adr)(K:PySem.W.Frag)(H:Hp):Prop:=∃vs,RUs A [] T.scr vs/\Qlw K H A.s vs
structure Rep(T:Tbl)(A:Adr)(K:PySem.W.Frag)(α:List Addr)(hs:Hs)(H:Hp):Prop where
 h:RH T A α hs H
 s:Scr T A K H
structure Ext(α α':List Addr)(H H':Hp):Prop where
 pre:∀(n:Nat) a,α[n]?=some a->α'[n]?=some a
 new:∀(n:Nat) a,α'[n]?=some a->α.length<=n->H a=none
 keep:∀b o,H b=some o->b∉α->H' b=some o
 fz:∀b o kv,H b=some (.frz o (.dK kv))->H' b=some (.frz o (.dK kv))
structure RS(A:Adr)(α:List Addr)(ρ:Rho)(σ:St):Prop where
 len:ρ.length=σ.length
 val:∀(i:Nat) u,ρ[i]?=some (some u)->∃v,σ[i]?=some (some v)/\RU A α u v
section
variable {T:Tbl}{A:Adr}{K:PySem.W.Frag}{α α' α1 α2:List Addr}{hs hs' h1 h2:Hs}{H H' H1 H2:Hp}{u:U}{v:V}{us:List U}{vs:List V}{ρ:Rho}{σ:St}
theorem RU.mono(p:∀(n:Nat) a,α[n]?=some a->α'[n]?=some a)(h:RU A α u v):RU A α' u v:=by
 cases u with
 | ref n=>obtain⟨a,e,r⟩:=h;exact⟨a,p _ _ e,r⟩
 | _=>exact h
theorem RUs.mono(p:∀(n:Nat) a,α[n]?=some a->α'[n]?=some a)(h:RUs A α us vs):RUs A α' us vs:=Paired.mapP h fun _ _ r=>RU.mono p r
theorem RF.mono{fs:List (Nat×U)}{fv:List (Str×V)}(p:∀(n:Nat) a,α[n]?=some a->α'[n]?=some a)(h:RF T A α fs fv):RF T A α' fs fv:=Paired.mapP h fun _ _ r=>⟨r.1,r.2.mono p⟩
theorem RD.mono{fs:List (U×U)}{fv:List (Key×V)}(p:∀(n:Nat) a,α[n]?=some a->α'[n]?=some a)(h:RD A α fs fv):RD A α' fs fv:=Paired.mapP h fun _ _ r=>⟨r.1,r.2.mono p⟩
theorem RT.mono{fs:List (List U×U)}{fv:List (List Key×V)}(p:∀(n:Nat) a,α[n]?=some a->α'[n]?=some a)(h:RT A α fs fv):RT A α' fs fv:=Paired.mapP h fun _ _ r=>⟨r.1,r.2.mono p⟩
theorem RS.mono(p:∀(n:Nat) a,α[n]?=some a->α'[n]?=some a)(h:RS A α ρ σ):RS A α' ρ σ:=⟨h.len,fun i u e=>let ⟨v,e1,r⟩:=h.val i u e;⟨v,e1,r.mono p⟩⟩
theorem Ext.refl:Ext α α H H:=⟨fun _ _ e=>e,fun n a e l=>by
 have:=(List.getElem?_eq_some_iff.mp e).1
 omega,fun _ _ e _=>e,fun _ _ _ e=>e⟩
theorem getElem?_lt{n:Nat}{a:Addr}(e:α[n]?=some a):n < α.length:=(List.getElem?_eq_some_iff.mp e).1
theorem QaS(h:α.Nodup){i j:Nat}{a:Addr}(e1:α[i]?=some a)(e2:α[j]?=some a):i=j:=by
 obtain⟨l1,q1⟩:=List.getElem?_eq_some_iff.mp e1;obtain⟨l2,q2⟩:=List.getElem?_eq_some_iff.mp e2;exact(List.getElem_inj h).mp (q1.trans q2.symm)
theorem Ext.trans(a:Ext α α1 H H1)(b:Ext α1 α2 H1 H2)(R:RH T A α2 h2 H2):Ext α α2 H H2 where
 fz:=fun c o kv e=>b.fz c o kv (a.fz c o kv e)
 pre:=fun n x e=>b.pre n x (a.pre n x e)
 new:=fun n x e l=>by
  by_cases hn:n < α1.length
  ·have e1:α1[n]?=some α1[n]:=List.getElem?_eq_getElem hn;have e2:=b.pre n _ e1;rw [e]at e2;cases e2;exact a.new n _ e1 l
  ·cases q:H x with
   | none=>rfl
   | some o =>
    by_cases hx:x∈α
    ·obtain⟨m,hm⟩:=List.getElem?_of_mem hx;have:=QaS R.nd (b.pre m x (a.pre m x hm)) e;have:=getElem?_lt hm;omega
    ·have:=a.keep x o q hx
     rw [b.new n x e (by omega)]at this
     cases this
 keep:=fun c o e hc=>b.keep c o (a.keep c o e hc) fun hm=>by
  obtain⟨n,hn⟩:=List.getElem?_of_mem hm;by_cases l:n < α.length
  ·have e1:α[n]?=some α[n]:=List.getElem?_eq_getElem l;have:=a.pre n _ e1;rw [hn]at this;cases this;exact hc (List.getElem_mem l)
  ·rw [a.new n c hn (by omega)]at e
   cases e
theorem RO.trk{a:Addr}{o:O}(h:RO T A α H a o):∃x,H a=some x/\∀ob u,x≠.frz ob (.lst u):=by
 cases o with
 | lst xs=>obtain⟨vs,e,_⟩:=h;exact⟨_,e,fun _ _ z=>nomatch z⟩
 | tup xs=>obtain⟨vs,e,_⟩:=h;exact⟨_,e,fun _ _ z=>nomatch z⟩
 | ins c fs=>obtain⟨dx,fv,e,_⟩:=h;exact⟨_,e,fun _ _ z=>nomatch z⟩
 | dic _=>obtain⟨kv,e,_⟩:=h;exact⟨_,e,fun _ _ z=>nomatch z⟩
 | dct _=>obtain⟨kv,e,_⟩:=h;exact⟨_,e,fun _ _ z=>nomatch z⟩
 | fzd _=>obtain⟨kv,ob,e,_⟩:=h;exact⟨_,e,fun _ _ z=>nomatch z⟩
 | err _=>obtain⟨e,_⟩:=h;exact⟨_,e,fun _ _ z=>nomatch z⟩
theorem RH.trk(R:RH T A α hs H){n:Nat}{a:Addr}(e:α[n]?=some a):∃o,hs[n]?=some o/\RO T A α H a o:=by
 have l:=getElem?_lt e;rw [R.len]at l;exact⟨hs[n],List.getElem?_eq_getElem l,R.ob n a _ e (List.getElem?_eq_getElem l)⟩
theorem RH.adr(R:RH T A α hs H){n:Nat}{o:O}(e:hs[n]?=some o):∃a,α[n]?=some a/\RO T A α H a o:=by
 have l:n<hs.length:=(List.getElem?_eq_some_iff.mp e).1;rw [<-R.len]at l;exact⟨α[n],List.getElem?_eq_getElem l,R.ob n _ _ (List.getElem?_eq_getElem l) e⟩
theorem RH.notIn(R:RH T A α hs H){p:Addr}(h:H p=none):p∉α:=fun m=>by
 obtain⟨n,e⟩:=List.getElem?_of_mem m;obtain⟨o,_,r⟩:=R.trk e;obtain⟨x,e,_⟩:=r.trk;rw [h]at e;cases e
theorem RO.keep{a:Addr}{o:O}(h:RO T A α H a o)(p:∀(n:Nat) a,α[n]?=some a->α'[n]?=some a)(k:∀x,H a=some x->H' a=some x):RO T A α' H' a o:=by
 cases o with
 | lst xs=>obtain⟨vs,e,r⟩:=h;exact⟨vs,k _ e,RUs.mono p r⟩
 | tup xs=>obtain⟨vs,e,r⟩:=h;exact⟨vs,k _ e,RUs.mono p r⟩
 | ins c fs=>obtain⟨dx,fv,e,r,l⟩:=h;exact⟨dx,fv,k _ e,RF.mono p r,l⟩
 | dic _=>obtain⟨kv,e,r⟩:=h;exact⟨kv,k _ e,RD.mono p r⟩
 | dct _=>obtain⟨kv,e,r⟩:=h;exact⟨kv,k _ e,RT.mono p r⟩
 | fzd _=>obtain⟨kv,ob,e,r⟩:=h;exact⟨kv,ob,k _ e,RD.mono p r⟩
 | err _=>obtain⟨e,l⟩:=h;exact⟨k _ e,l⟩
theorem Scr.keep(h:Scr T A K H)(k:∀x,H A.s=some x->(∃o u,x=.frz o (.lst u))->H' A.s=some x):Scr T A K H':=by
 obtain⟨vs,r,q | q⟩:=h
 ·obtain⟨o,e⟩:=q;exact⟨vs,r,.inl ⟨o,k _ e ⟨_,_,rfl⟩⟩⟩
 ·exact⟨vs,r,.inr q⟩
theorem Scr.sq(h:Scr T A K H):∃vs,RUs A α T.scr vs/\SqL K H A.s vs:=by
 obtain⟨vs,r,q⟩:=h
 refine⟨vs,RUs.mono (fun n a e=>by simp at e) r,?_⟩
 rcases q with⟨o,e⟩ | q
 ·exact .inl (.inr ⟨o,e⟩)
 ·exact .inr q
theorem Qz{p:Addr}:(α++[p])[α.length]?=some p:=by simp
theorem Qu{p:Addr}:∀(n:Nat) a,α[n]?=some a->(α++[p])[n]?=some a:=fun n a e=>by
 rw [List.getElem?_append_left (getElem?_lt e)];exact e
theorem QK{β:Type}{l:List β}{p a:β}{n:Nat}(e:(l++[p])[n]?=some a):l[n]?=some a\/(n=l.length/\a=p):=by
 by_cases h:n<l.length
 ·rw [List.getElem?_append_left h]at e;exact .inl e
 ·rw [List.getElem?_append_right (by omega)]at e
  have:n-l.length=0:=by
   cases q:n-l.length with
   | zero=>rfl
   | succ k=>rw [q]at e;simp at e
  rw [this]at e;simp at e
  exact .inr ⟨by omega,e.symm⟩
theorem YK{l:List Addr}{p:Addr}(h:l.Nodup)(n:p∉l):(l++[p]).Nodup:=by
 induction l with
 | nil=>simp
 | cons a r ih =>
  obtain⟨h1,h2⟩:=List.nodup_cons.mp h;rw [List.cons_append];refine List.nodup_cons.mpr ⟨fun m=>?_,ih h2 fun m=>n (List.mem_cons_of_mem _ m)⟩
  rcases List.mem_append.mp m with m | m
  ·exact h1 m
  ·exact n (List.mem_cons.mpr (.inl (List.mem_singleton.mp m).symm))
theorem Rep.new{p:Addr}{o:O}{ho:HO}(R:Rep T A K α hs H)(hp:H p=none)(r:RO T A (α++[p]) (upd H p ho) p o):Rep T A K (α++[p]) (hs++[o]) (upd H p ho)/\Ext α (α++[p]) H (upd H p ho):=by
 have ne:∀b x,H b=some x->b≠p:=fun b x e z=>by rw [z,hp]at e;cases e
 refine⟨⟨⟨by simp [R.h.len],YK R.h.nd (R.h.notIn hp),fun n a ob e1 e2=>?_⟩,R.s.keep fun x e _=>by rw [Qe (ne _ _ e)];exact e⟩,⟨Qu,fun n a e l=>?_,fun b x e _=>by rw [Qe (ne _ _ e)];exact e,fun b x kv e=>by rw [Qe (ne _ _ e)];exact e⟩⟩
 ·rcases QK e1 with q | ⟨q1,q2⟩
  ·rcases QK e2 with z | ⟨z,_⟩
   ·exact RO.keep (R.h.ob n a ob q z) Qu fun x e=>by rw [Qe (ne _ _ e)];exact e
   ·have:=getElem?_lt q;rw [R.h.len]at this;omega
  ·subst q2
   rcases QK e2 with z | ⟨_,z⟩
   ·have:=(List.getElem?_eq_some_iff.mp z).1;rw [<-R.h.len]at this;omega
   ·subst z;exact r
 ·rcases QK e with q | ⟨_,q⟩
  ·have:=getElem?_lt q;omega
  ·rw [q];exact hp
theorem Rep.put0{n:Nat}{a:Addr}{o:O}{ho:HO}(R:Rep T A K α hs H)(ha:α[n]?=some a)(r:RO T A α (upd H a ho) a o):Rep T A K α (hs.set n o) (upd H a ho):=by
 have ta:=R.h.trk ha;obtain⟨o0,_,r0⟩:=ta;obtain⟨x0,e0,nf⟩:=r0.trk
 refine⟨⟨by simp [R.h.len],R.h.nd,fun m b ob e1 e2=>?_⟩,R.s.keep fun x e z=>?_⟩
 ·by_cases hm:m=n
  ·subst hm;rw [ha]at e1;cases e1
   have l:m<hs.length:=by rw [<-R.h.len];exact getElem?_lt ha
   rw [List.getElem?_set_self l]at e2;cases e2;exact r
  ·rw [List.getElem?_set_ne (Ne.symm hm)]at e2;have hb:b≠a:=fun z=>hm (QaS R.h.nd (z▸e1) ha)
   exact RO.keep (R.h.ob m b ob e1 e2) (fun _ _ e=>e) fun x e=>by rw [Qe hb];exact e
 ·obtain⟨ob,u,z⟩:=z
  have hb:A.s≠a:=fun q=>by rw [q,e0]at e;cases e;exact nf _ _ z
  rw [Qe hb];exact e
theorem Rep.put{n:Nat}{a:Addr}{o:O}{ho:HO}(R:Rep T A K α hs H)(ha:α[n]?=some a)(r:RO T A α (upd H a ho) a o)(hz:∀ob kv,H a≠some (.frz ob (.dK kv)):=by intro _ _ z;simp only [*,Option.some.injEq,reduceCtorEq]at z):Rep T A K α (hs.set n o) (upd H a ho)/\Ext α α H (upd H a ho):=by
 refine⟨R.put0 ha r,⟨fun _ _ e=>e,fun m b e l=>by have:=getElem?_lt e;omega,fun b x e hb=>?_,fun b ob kv e=>?_⟩⟩
 ·have hb':b≠a:=fun z=>hb (z▸List.mem_of_getElem? ha);rw [Qe hb'];exact e
 ·have hb':b≠a:=fun z=>hz ob kv (z▸e);rw [Qe hb'];exact e
theorem RS.get(R:RS A α ρ σ){i:Nat}{u:U}(e:ρ[i]?=some (some u)):∃v,σ[i]?=some (some v)/\RU A α u v:=R.val i u e
theorem RS.set(R:RS A α ρ σ)(i:Nat)(r:RU A α u v):RS A α (ρ.set i (some u)) (σ.set i (some v)):=by
 refine⟨by simp [R.len],fun j w e=>?_⟩
 by_cases h:j=i
 ·subst h
  have l:j < ρ.length:=by
   have:=(List.getElem?_eq_some_iff.mp e).1;simpa using this
  rw [List.getElem?_set_self l]at e;cases e
  exact⟨v,List.getElem?_set_self (by rw [<-R.len];exact l),r⟩
 ·rw [List.getElem?_set_ne (Ne.symm h)]at e;rw [List.getElem?_set_ne (Ne.symm h)];exact R.val j w e
end
noncomputable def flE(A:Adr)(α:List Addr)(D:Ends)(σ:St)(H:Hp):Fl->Prop
 | .next=>D.nx σ H
 | .brk=>D.bk σ H
 | .cont=>D.ct σ H
 | .ret u=>∀v,RU A α u v->D.rt v H
section
variable (T:Tbl)(A:Adr)(K:PySem.W.Frag)
noncomputable def TI(f:Rho->Hs->Option (U×Hs)):TE:=fun σ H Q=>∃α ρ hs u hs',RS A α ρ σ/\Rep T A K α hs H/\f ρ hs=some (u,hs') /\
 ∀α' v H',Ext α α' H H'->Rep T A K α' hs' H'->RU A α' u v->Q v H'
noncomputable def TIT(f:Rho->Hs->Option (Bool×Hs)):TT:=fun σ H Q=>∃α ρ hs u hs',RS A α ρ σ/\Rep T A K α hs H/\f ρ hs=some (u,hs') /\
 ∀α' H',Ext α α' H H'->Rep T A K α' hs' H'->Q u H'
noncomputable def TIA(f:Rho->Hs->Option (List U×Hs)):TA:=fun σ H Q=>∃α ρ hs us hs',RS A α ρ σ/\Rep T A K α hs H/\f ρ hs=some (us,hs') /\
 ∀α' vs H',Ext α α' H H'->Rep T A K α' hs' H'->RUs A α' us vs->Q vs H'
noncomputable def TIS(f:Ex):TS:=fun D σ H=>∃α ρ hs fl ρ' hs',RS A α ρ σ/\Rep T A K α hs H/\f ρ hs=some (fl,ρ',hs') /\
 ∀α' σ' H',Ext α α' H H'->Rep T A K α' hs' H'->RS A α' ρ' σ'->flE A α' D σ' H' fl
end
section
variable {T:Tbl}{A:Adr}{K:PySem.W.Frag}{α:List Addr}{ρ:Rho}{σ:St}{hs h1:Hs}{H:Hp}
theorem TI.run{f:Rho->Hs->Option (U×Hs)}{u:U}{Q:VK}(rs:RS A α ρ σ)(rp:Rep T A K α hs H)(h:f ρ hs=some (u,h1))
  (k:∀α1 v H1,Ext α α1 H H1->Rep T A K α1 h1 H1->RU A α1 u v->RS A α1 ρ σ->Q v H1):TI T A K f σ H Q :=
 ⟨α,ρ,hs,u,h1,rs,rp,h,fun α1 v H1 e r q=>k α1 v H1 e r q (rs.mono e.pre)⟩
theorem TIT.run{f:Rho->Hs->Option (Bool×Hs)}{u:Bool}{Q:Bool->Hp->Prop}(rs:RS A α ρ σ)(rp:Rep T A K α hs H)(h:f ρ hs=some (u,h1))
  (k:∀α1 H1,Ext α α1 H H1->Rep T A K α1 h1 H1->RS A α1 ρ σ->Q u H1):TIT T A K f σ H Q :=
 ⟨α,ρ,hs,u,h1,rs,rp,h,fun α1 H1 e r=>k α1 H1 e r (rs.mono e.pre)⟩
theorem TIA.run{f:Rho->Hs->Option (List U×Hs)}{us:List U}{Q:List V->Hp->Prop}(rs:RS A α ρ σ)(rp:Rep T A K α hs H)(h:f ρ hs=some (us,h1))
  (k:∀α1 vs H1,Ext α α1 H H1->Rep T A K α1 h1 H1->RUs A α1 us vs->RS A α1 ρ σ->Q vs H1):TIA T A K f σ H Q :=
 ⟨α,ρ,hs,us,h1,rs,rp,h,fun α1 v H1 e r q=>k α1 v H1 e r q (rs.mono e.pre)⟩
end
section
variable {X:Cx}
theorem QE{e:Expr}{t t':TE}(h:PE X e t)(i:∀σ H Q,t' σ H Q->t σ H Q):PE X e t':=fun pins s σ H Q I q=>h pins s σ H Q I (i σ H Q q)
theorem Qhi{e:Expr}{t t':TT}(h:PT X e t)(i:∀σ H Q,t' σ H Q->t σ H Q):PT X e t':=fun pins s σ H Q I q=>h pins s σ H Q I (i σ H Q q)
theorem Qjj{e:Expr}{t t':TT}(h:PW X e t)(i:∀σ H Q,t' σ H Q->t σ H Q):PW X e t':=fun wh pins s σ H Q I q=>h wh pins s σ H Q I (i σ H Q q)
theorem Qjl{es:List Expr}{t t':TA}(h:PA X es t)(i:∀σ H Q,t' σ H Q->t σ H Q):PA X es t':=fun pos pins s σ H Q I q=>h pos pins s σ H Q I (i σ H Q q)
theorem Zk{st:Stmt}{t t':TS}(h:PS X st t)(i:∀D σ H,t' D σ H->t D σ H):PS X st t':=fun pins s σ H D I q=>h pins s σ H D I (i D σ H q)
theorem Qfz{st:List Stmt}{t t':TS}(h:PSs X st t)(i:∀D σ H,t' D σ H->t D σ H):PSs X st t':=fun pins s σ H D I q=>h pins s σ H D I (i D σ H q)
end
end Iv
namespace Iv
open PySem PySem.Spec PyProof.Rows L2
noncomputable def tyV:Ty->String
 | .non=>"NoneType" | .bool=>"bool" | .int=>"int" | .str=>"str" | .list=>"list" | .tuple=>"tuple" | .dict=>"dict" | .cls _=>"object" | .vale=>"ValueError"
noncomputable def tyW(A:Adr):Ty->Value
 | .cls c=>.ref (A.c c)
 | t=>.type (tyV t)
structure ClOk(T:Tbl)(A:Adr)(K:PySem.W.Frag)(i:Nat)(C:Cl):Prop where
 cls:Cls K (A.c i)
 nf:∀x∈T.fns',NoAttr K (A.c i) x
 me:∀m f,C.meths.lookup m=some f->∃x,T.mns[m]?=some x/\Meth K (A.c i) x (A.f f)
 mks:PySem.W.makesIn K (A.c i)=true
 kp:PySem.W.keepIn K (.ref (A.c i))=true
 ini:match C.init with
  | some f => PySem.W.findIn K (.ref (A.c i)) "__init__" = some (some (.ref (A.f f))) /\ PySem.W.isFn K (.ref (A.f f)) = true
  | none=>PySem.W.findIn K (.ref (A.c i)) "__init__"=some (some (.builtin "object.__init__"))
 ty:∀(H:Hp) (a dx:Addr) (fs:List (Str×V)),H a=some (.ins (A.c i) dx fs)->TyOf K H (.ref a) (.ref (A.c i))
structure FunD(K:PySem.W.Frag)(x qual:Str)(st:Stmt)(f:Addr)(fd:FuncData):Prop where
 ex:∃(oc:Value) (od:Option Addr) (dV kV doc pm:Value) (an:Option Addr) (cdv ct:Value) (osl:Array (Option Value)),
  fd=PySem.W.fnOf x qual (Qd st) (Qc st) (Qa st) dV kV doc pm an cdv ct/\K.lookup f=some ⟨oc,od,.func fd,osl⟩/\PySem.W.codeIn K cdv qual=true
 kp:PySem.W.keepIn K (.ref f)=true
theorem FunD.ok{P:Program}{w:World}{K:PySem.W.Frag}{mg:Str->Option Value}{base:Heap}{x qual:Str}{st:Stmt}{f:Addr}{fd:FuncData}{N ps:List Str}{k:Nat}{sp:Sp}(F:FunD K x qual st f fd)(S:FnScope N ps (Qa st))(len:∀vs H Q E,sp vs H Q E->vs.length=ps.length)
  (hbody:∀(cdv:Value) (A:Around) (outer:List Env) (s:Shared) (H:Hp) (vs:List V) (Q:VK) (E:XK),Room k (A.deeper (envOfC qual (Qa st) s.heap.objs.size f cdv))->sp vs H Q E ->
   ∃t,PSs (QcJ CX0 P w K mg base N qual (Qa st) f cdv A outer s H E).nox (Qc st) t/\t { nx:=fun _ H'=>Q .non H',rt:=Q } (start N vs) H):FnOk P w K mg base CX0 (k+1) f fd ps sp:=by
 obtain⟨oc,od,dV,kV,doc,pm,an,cdv,ct,osl,rfl,lk,hcd⟩:=F.ex;refine Qi1 lk hcd S len fun A outer s H vs Q E hr hsp=>?_;obtain⟨t,h,q⟩:=hbody cdv A outer s H vs Q E hr hsp;exact⟨t,h.nox,q⟩
theorem FunD.same{K:PySem.W.Frag}{x y q q':Str}{st st':Stmt}{f:Addr}{fd fd':FuncData}(a:FunD K x q st f fd)(b:FunD K y q' st' f fd'):fd=fd':=by
 obtain⟨_,_,_,_,_,_,_,_,_,_,_,l1,_⟩:=a.ex;obtain⟨_,_,_,_,_,_,_,_,_,_,_,l2,_⟩:=b.ex;rw [l1]at l2;cases l2;rfl
noncomputable def kg{β:Type}(us ws:List β):List β:=us++ws.take 1
noncomputable def Qjz(A:Adr)(K:PySem.W.Frag)(fd:FuncData)(D:Df):Prop:=∃(ds:List Value) (dvs:List V),RUs A [] D.ds dvs/\Vals dvs ds/\(∀n,Binds K fd D.ps (ds.drop n))/\KBinds K fd D.ps [D.last] kg kg
structure Txt(T:Tbl)(A:Adr)(K:PySem.W.Frag)(mg:Str->Option Value):Prop where
 fn:∀i F,T.fns[i]?=some F->∃fd,FunD K F.name F.qual F.st (A.f i) fd/\Binds K fd F.ps []/\FnScope F.N F.ps (Qa F.st)/\F.ps.length=F.np/\F.N.length=F.nN
 df:∀i D,T.dfl.lookup i=some D->∃fd x q st,FunD K x q st (A.f i) fd/\Qjz A K fd D/\∀F,T.fns[i]?=some F->F.ps=D.ps/\F.np=D.np
 cl:∀i C,T.cls[i]?=some C->ClOk T A K i C
 fm:∀x∈T.fns',x∉T.mns
 fd:T.fns'.Nodup
 isi:∀k t b,T.isi.lookup (k,t)=some b->PySem.W.kitOne K (tyW A k) (tyW A t)=some b
 co:∀k c,T.cons[k]?=some c->match c with
  | Co.tup xs=>∃vs,RUs A [] xs vs/\∀H,SqT K H (A.k k) vs
  | Co.lst xs=>∃vs,RUs A [] xs vs/\∀H,SqL K H (A.k k) vs
  | Co.tab _=>True
 er : ∀ c, T.ers.contains c = true -> ErrCls K (A.c c) /\ PySem.W.excIn K (A.c c) Qbv "ValueError.__new__" = true
 es:∀c c',T.esb.contains (c,c')=true->PySem.W.exmOne K (.ref (A.c c)) (.ref (A.c c'))=some true
noncomputable def QgD:U->Key->Prop
 | .int i 0,k=>k=.inl i
 | .str x,k=>k=.inr ⟨x.toArray⟩
 | _,_=>False
noncomputable def Jh(P:Program)(w:World)(T:Tbl)(A:Adr)(K:PySem.W.Frag):Prop:=∀k kvs,T.cons[k]?=some (.tab kvs) ->
 ∃vs:List (Key×Value),(A.k k==sysModules)=false/\(∀h:Heap,K.In h->h.DictOf (Qs P w) (A.k k) vs)/\Paired (fun(p:U×U) (q:Key×Value)=>QgD p.1 q.1/\∃v,RU A [] p.2 v/\RelV v q.2) kvs vs
structure GX(T:Tbl)(A:Adr)(C:Ctx)(X:Cx):Prop where
 CT:C.T=T
 N:X.N=C.N
 nd:X.N.Nodup
 sc:X.env.scope.names=C.names
 calm:X.calm=true
 kind:X.env.scope.kind=.function
 xe:X.xe=fun _ _=>False
 gfn:∀x i,C.gl.lookup x=some (.fn i)->X.mg x=some (.ref (A.f i))
 gcl:∀x i,C.gl.lookup x=some (.cls i)->X.mg x=some (.ref (A.c i))
 gco:∀x k,C.gl.lookup x=some (.con k)->X.mg x=some (.ref (A.k k))
 gtx:∀x t,C.gl.lookup x=some (.txt t)->∃k,X.mg x=some (.str ⟨t.toArray⟩ k)
 blt:∀x,¬C.bl.contains x=false->X.mg x=none
 txt:Txt T A X.K X.mg
 tab:Jh X.prog X.w T A X.K
noncomputable def spC(T:Tbl)(A:Adr)(K:PySem.W.Frag)(cf:Cf)(f:Nat):Sp:=fun vs H Q _=>∃α us hs u hs',RUs A α us vs/\Rep T A K α hs H/\cf f us hs=some (u,hs')/\(∃F,T.fns[f]?=some F/\us.length=F.np) /\
 ∀α' v H',Ext α α' H H'->Rep T A K α' hs' H'->RU A α' u v->Q v H'
noncomputable def spX(T:Tbl)(A:Adr)(K:PySem.W.Frag)(xf:Nat->List U->Hs->Option (Nat×Hs))(f:Nat):Sp:=fun vs H _ E=>∃α us hs c hs',RUs A α us vs/\Rep T A K α hs H/\xf f us hs=some (c,hs')/\(∃F,T.fns[f]?=some F/\us.length=F.np) /\
 ∀α' H',Ext α α' H H'->Rep T A K α' hs' H'->E (.ref (A.c c)) none H'
theorem QP{x:Str}:∀{N:List Str} {i:Nat},idx x N=some i->N[i]?=some x
 | [],_,h=>by simp [idx]at h
 | y::r,i,h=>by
  unfold idx at h;split at h
  ·rename_i e;cases h;simp [e]
  ·cases q:idx x r with
   | none=>rw [q]at h;cases h
   | some j =>
    rw [q]at h;cases h;simpa using QP q
theorem Qhq{T:Tbl}{A:Adr}{C:Ctx}{X:Cx}{x:Str}(g:GX T A C X)(h:QgG C x=true):Vis X.env.scope x:=by
 unfold QgG at h;unfold Vis;rw [g.sc];split at h<;>simp_all
theorem Jy{T:Tbl}{A:Adr}{C:Ctx}{X:Cx}{x:Str}(g:GX T A C X)(h:Qak C x=true):L2.Loc X.env.scope x:=by
 unfold Qak at h;unfold L2.Loc;rw [g.sc];split at h<;>simp_all
theorem QZ{T:Tbl}{A:Adr}{C:Ctx}{X:Cx}{x:Str}(g:GX T A C X)(h:ZQ C x=true):Gl X x:=by
 unfold ZQ at h;show X.env.scope.names.lookup x=some .globalImplicit;rw [g.sc];split at h
 ·assumption
 ·cases h
theorem QO{x y:Str}(h:x≠y):(x==y)=false:=by simpa using h
theorem Zh{o:Expr}{f:Str}{env:Env}{w:Sem Value}(h:Zs o=true):attributeBase o f env w=w:=by
 unfold attributeBase;split
 ·cases h
 ·rfl
theorem ZT{b:Expr}(h:Zo b=true):QcY b:=by
 intro o i
 cases b<;>first | rfl | cases h
theorem Qk{e:Expr}{es:List Expr}{env:Env}(h:∀x p,e≠.Starred x p):starEach (e::es) env=(false,eval e env)::starEach es env:=by
 cases e<;>first | rfl | exact absurd rfl (h _ _)
noncomputable def Yy(es:List Expr):Prop:=∀e∈es,∀x p,e≠.Starred x p
theorem Q4{env:Env}{pos:Pos}:∀{es:List Expr},Yy es->(backTo pos (starEach es env)).any (·.1)=false
 | [],_=>rfl
 | e::r,h=>by
  rw [Qk (h e (List.mem_cons_self ..))];have ih:=Q4 (env:=env) (pos:=pos) (es:=r) fun x hx=>h x (List.mem_cons_of_mem _ hx);unfold backTo at ih ⊢;rw [List.map_cons,List.any_cons,ih];rfl
theorem Qv{m:Nat}{C:Ctx}{e:Expr}{ir:E}(h:Qh m C e=some ir):∀x p,e≠.Starred x p:=by
 rintro x p rfl;cases m<;>simp [Qh]at h
theorem Qn{C:Ctx}:∀{m:Nat} {es:List Expr} {irs:List E},compA m C es=some irs->Yy es
 | 0,_,_,h=>by simp [compA]at h
 | m+1,[],_,_=>fun _ h=>nomatch h
 | m+1,e::r,irs,h=>by
  simp only [compA,Option.bind_eq_some_iff]at h;obtain⟨e',he,r',hr,_⟩:=h;intro x hx
  rcases List.mem_cons.mp hx with rfl | hx
  ·exact Qv he
  ·exact Qn hr x hx
section
variable {T:Tbl}{A:Adr}{K:PySem.W.Frag}{α:List Addr}{hs hs':Hs}{H:Hp}{u w:U}{v y:V}
theorem RUs.length{us:List U}{vs:List V}(r:RUs A α us vs):us.length=vs.length:=Paired.length r
theorem RUs.get:∀{us:List U} {vs:List V} {i:Nat} {u:U},RUs A α us vs->us[i]?=some u->∃v,vs[i]?=some v/\RU A α u v
 | _,_,_,_,.nil,e=>by simp at e
 | _,_,0,_,.cons r _,e=>by simp at e;subst e;exact⟨_,rfl,r⟩
 | _,_,i+1,u,.cons _ t,e=>by
  obtain⟨v,h1,h2⟩:=RUs.get (i:=i) (u:=u) t (by simpa using e)
  exact⟨v,by simpa using h1,h2⟩
theorem RUs.append:∀{us ws:List U} {vs ys:List V},RUs A α us vs->RUs A α ws ys->RUs A α (us++ws) (vs++ys)
 | _,_,_,_,.nil,s=>s
 | _,_,_,_,.cons r t,s=>.cons r (RUs.append t s)
theorem ZR{xs:List U}{K':PySem.W.Frag}{mg:Str->Option Value}(tx:Txt T A K mg)(R:Rep T A K α hs H)(h:ZB T u hs=some xs)(r:RU A α u v):∃a vs,v=.ref a/\RUs A α xs vs/\(SqL K H a vs\/SqT K H a vs):=by
 cases u with
 | ref n =>
  obtain⟨a,ha,rfl⟩:=r;simp only [ZB]at h;split at h
  ·rename_i ys e;cases h;obtain⟨vs,q,rr⟩:=R.h.ob n a _ ha e;exact⟨a,vs,rfl,rr,.inl (SqL.of q)⟩
  ·rename_i ys e;cases h;obtain⟨vs,q,rr⟩:=R.h.ob n a _ ha e;exact⟨a,vs,rfl,rr,.inr (SqT.of q)⟩
  ·cases h
 | con k =>
  simp only [ZB]at h;split at h
  ·rename_i ys e;cases h;obtain⟨vs,rr,q⟩:=tx.co k _ e
   exact⟨_,vs,r,RUs.mono (fun n a e=>by simp at e) rr,.inl (q H)⟩
  ·rename_i ys e;cases h;obtain⟨vs,rr,q⟩:=tx.co k _ e
   exact⟨_,vs,r,RUs.mono (fun n a e=>by simp at e) rr,.inr (q H)⟩
  ·cases h
 | scr =>
  simp only [ZB]at h;cases h;obtain⟨vs,rr,q⟩:=R.s.sq (α:=α);exact⟨_,vs,r,rr,.inl q⟩
 | _=>simp [ZB]at h
theorem Zp(x:List Nat):({ cps:=x.toArray }:Str).length=x.length:=by simp [Str.length]
theorem big:(1000000:Nat)<=sizeLine:=by decide
theorem Qbz{b:Bool}{mg:Str->Option Value}(tx:Txt T A K mg)(R:Rep T A K α hs H)(h:YX T u hs=some b)(r:RU A α u v):Qji K v H b:=by
 have sq:∀{xs:List U},ZB T u hs=some xs->b=!xs.isEmpty->Qji K v H b:=fun {xs} e1 e2=>by
  obtain⟨a,vs,rfl,rr,q⟩:=ZR (K':=K) tx R e1 r
  have e3:b=!vs.isEmpty:=by
   rw [e2];cases rr<;>rfl
  rcases q with q | q
  ·exact .inl ⟨vs,q,e3⟩
  ·exact .inr (.inl ⟨vs,q,e3⟩)
 cases u with
 | non=>simp only [YX]at h;cases h;cases r;rfl
 | bl c=>simp only [YX]at h;cases h;cases r;rfl
 | int i m =>
  cases m with
  | zero =>
   simp only [YX]at h;cases h;obtain⟨j,rfl,c⟩:=r;cases c.exact;show decide (i≠0)=(i != 0);by_cases q:i=0<;>simp [q]
  | succ m=>simp [YX,ZB]at h
 | str x =>
  simp only [YX]at h;split at h
  ·rename_i l;cases h;cases(show v=.str ⟨x.toArray⟩from r)
   refine⟨by rw [Zp];exact Nat.le_trans l big,?_⟩
   rw [Zp];cases x<;>simp;omega
  ·cases h
 | ref n =>
  simp only [YX,Option.map_eq_some_iff]at h;obtain⟨xs,e1,e2⟩:=h;exact sq e1 e2.symm
 | con n =>
  simp only [YX,Option.map_eq_some_iff]at h;obtain⟨xs,e1,e2⟩:=h;exact sq e1 e2.symm
 | scr =>
  simp only [YX,Option.map_eq_some_iff]at h;obtain⟨xs,e1,e2⟩:=h;exact sq e1 e2.symm
end
end Iv
namespace Iv
open PySem PySem.Spec PyProof.Rows L2
theorem Qfx{i' i j' j:Int}{m n:Nat}(a:Cg i' i m)(b:Cg j' j n):Cg (i'+j') (i+j) (gz m n):=by
 obtain⟨p,rfl⟩:=a;obtain⟨q,rfl⟩:=b
 cases m with
 | zero=>exact⟨q,by simp [gz];omega⟩
 | succ m =>
  obtain⟨x,hx⟩:=Nat.gcd_dvd_left (m+1) n;obtain⟨y,hy⟩:=Nat.gcd_dvd_right (m+1) n;refine⟨x*p+y*q,?_⟩
  have e1:((m+1:Nat):Int)=(Nat.gcd (m+1) n:Int)*(x:Int):=by
   have:=congrArg (fun z:Nat=>(z:Int)) hx;simpa using this
  have e2:(n:Int)=(Nat.gcd (m+1) n:Int)*(y:Int):=by
   have:=congrArg (fun z:Nat=>(z:Int)) hy;simpa using this
  show i+((m+1:Nat):Int)*p+(j+(n:Int)*q)=i+j+(Nat.gcd (m+1) n:Int)*(x*p+y*q);rw [Int.mul_add,<-Int.mul_assoc,<-Int.mul_assoc,<-e1,<-e2];omega
theorem Qfw{i' i:Int}{m:Nat}(a:Cg i' i m):Cg (-i') (-i) m:=by
 obtain⟨p,rfl⟩:=a
 exact⟨-p,by rw [Int.mul_neg];omega⟩
theorem Qi7{i' i j' j:Int}{m n:Nat}(a:Cg i' i m)(b:Cg j' j n):Cg (i'-j') (i-j) (gz m n):=by
 have:=Qfx a (Qfw b);rw [Int.sub_eq_add_neg,Int.sub_eq_add_neg];exact this
theorem Qi8{i' i j:Int}{m:Nat}(a:Cg i' i m):Cg (i'*j) (i*j) (m*j.natAbs):=by
 obtain⟨p,rfl⟩:=a
 rcases Int.natAbs_eq j with e | e
 ·refine⟨p,?_⟩;rw [Int.add_mul,Int.natCast_mul,<-e,Int.mul_right_comm]
 ·refine⟨-p,?_⟩
  have e':(j.natAbs:Int)=-j:=by omega
  rw [Int.add_mul,Int.natCast_mul,e',Int.mul_neg,Int.mul_neg,Int.neg_mul,Int.neg_neg,Int.mul_right_comm]
theorem Qja{i' i j:Int}{m:Nat}(a:Cg i' i m)(hj:0<j)(hd:m % j.toNat=0):Cg (i' / j) (i / j) (m / j.toNat):=by
 obtain⟨p,rfl⟩:=a
 have e:(m:Int)=j*((m / j.toNat:Nat):Int):=by
  have h:=Nat.div_add_mod m j.toNat;rw [hd,Nat.add_zero]at h;have h2:=congrArg (fun z:Nat=>(z:Int)) h
  have h3:((j.toNat:Nat):Int)=j:=by omega
  simp only [Int.natCast_mul,h3]at h2;exact h2.symm
 refine⟨p,?_⟩
 rw [e,Int.mul_assoc,Int.add_mul_ediv_left _ _ (by omega)]
theorem Qi9{i' i j:Int}{m:Nat}(a:Cg i' i m)(hj:0<j)(hd:m % j.toNat=0):i' % j=i % j:=by
 obtain⟨p,rfl⟩:=a
 have e:(m:Int)=j*((m / j.toNat:Nat):Int):=by
  have h:=Nat.div_add_mod m j.toNat;rw [hd,Nat.add_zero]at h;have h2:=congrArg (fun z:Nat=>(z:Int)) h
  have h3:((j.toNat:Nat):Int)=j:=by omega
  simp only [Int.natCast_mul,h3]at h2;exact h2.symm
 rw [e,Int.mul_assoc,Int.add_mul_emod_self_left]
theorem Zm{i:Int}(h:Qw i=true):-(2 ^ 64) < i/\i<2 ^ 64:=by
 unfold Qw at h;rw [Bool.and_eq_true,decide_eq_true_eq,decide_eq_true_eq]at h;exact h
theorem QfM(x y:List Nat):({ cps:=x.toArray }:Str)++({ cps:=y.toArray }:Str)={ cps:=(x++y).toArray }:=by
 show Str.append _ _=_;simp [Str.append]
noncomputable def OpS(X:Cx)(T:Tbl)(A:Adr)(o:Operator):Prop:=∃r,OpR X (binaryOp o) r/\∀{α:List Addr} {u w u':U} {hs hs':Hs} {v y:V} {H:Hp} {Q:VK},opU o u w hs=some (u',hs')->RU A α u v->RU A α w y->Rep T A X.K α hs H ->
 (∀α' v' H',Ext α α' H H'->Rep T A X.K α' hs' H'->RU A α' u' v'->Q v' H')->r v y H Q
section
variable {X:Cx}{T:Tbl}{A:Adr}
theorem Qel{o:Operator}(h:∀u w hs,opU o u w hs=none):OpS X T A o:=⟨fun _ _ _ _=>False,fun _ _ _ _ _ _ _ _ _ _ _ _ h=>h.elim,fun e=>by rw [h]at e;cases e⟩
theorem QaR{o:Operator}{f:U->U->Option U}{r:R2}(ho:OpR X (binaryOp o) r)(hf:∀u w hs,opU o u w hs=(f u w).map fun z=>(z,hs))
  (h:∀{α:List Addr} {u w z:U} {v y:V} {H:Hp} {Q:VK},f u w=some z->RU A α u v->RU A α w y->(∀v',RU A α z v'->Q v' H)->r v y H Q):OpS X T A o:=by
 refine⟨r,ho,?_⟩;intro α u w u' hs hs' v y H Q e ru rw R k;rw [hf,Option.map_eq_some_iff]at e;obtain⟨z,e,q⟩:=e;cases q;exact h e ru rw fun v' r'=>k α v' H Ext.refl R r'
theorem Zi{α:List Addr}{i:Int}{v:V}(r:RU A α (.int i 0) v):v=.int i:=by
 obtain⟨j,rfl,c⟩:=r;cases c.exact;rfl
theorem Qgm:OpS X T A .Sub:=QaR Qis (fun _ _ _=>rfl) fun {α u w z v y H Q} h ru rw k=>by
 unfold QlF at h;split at h
 ·cases h;obtain⟨i',rfl,a⟩:=ru;obtain⟨j',rfl,b⟩:=rw;exact⟨i',j',rfl,rfl,k _ ⟨_,rfl,Qi7 a b⟩⟩
 ·cases h
theorem Qgk:OpR X (binaryOp .Mult) (rI IntMulOk fun i j=>.int (i*j)):=opI fun _ _ _ _ _ _ _ hc q=>mul_int q hc
theorem QcU{i:Int}(h:QcV i=true):Builtin.Int.intBits i<=4096:=by
 have h:=of_decide_eq_true h;unfold Builtin.Int.intBits;split
 ·omega
 ·rename_i z
  have n0:i.natAbs≠0:=by simpa using z
  exact Nat.succ_le_of_lt ((Nat.log2_lt n0).mpr h)
theorem QiL{i j:Int}(h:(Qw i||Qw j||(QcV i&&QcV j))=true):IntMulOk i j:=by
 rw [Bool.or_eq_true,Bool.or_eq_true,Bool.and_eq_true]at h
 rcases h with(h | h) | h
 ·exact CMul.ok (.inl (Zm h))
 ·exact CMul.ok (.inr (Zm h))
 ·have h1:=QcU h.1;have h2:=QcU h.2;unfold IntMulOk
  have:Builtin.Int.intTooBig (Builtin.Int.intBits i+Builtin.Int.intBits j)=false:=by
   unfold Builtin.Int.intTooBig;rw [bitsLine_eq]
   exact decide_eq_false (by omega)
  rw [this];simp
theorem RUs.rep{α:List Addr}{us:List U}{vs:List V}(r:RUs A α us vs):∀n:Nat,RUs A α (List.replicate n us).flatten (List.replicate n vs).flatten
 | 0=>.nil
 | n+1=>by
  rw [List.replicate_succ,List.replicate_succ,List.flatten_cons,List.flatten_cons];exact RUs.append r (RUs.rep r n)
theorem Qgo:OpS X T A .Mult:=by
 refine⟨_,OpR.or Qgk Qit,?_⟩;intro α u w u' hs hs' v y H Q e ru rw R k;by_cases isr:∃a,u=.ref a
 ·obtain⟨a,rfl⟩:=isr;simp only [opU]at e;unfold QlJ at e;split at e
  ·rename_i xs j e1;split at e
   ·rename_i c;cases e;cases Zi rw;obtain⟨pa,ha,rfl⟩:=ru;obtain⟨vs,q1,r1⟩:=R.h.ob _ pa _ ha e1;refine .inr ⟨pa,j,vs,rfl,rfl,q1,c.1,c.2.1,?_,fun p hp=>?_⟩
    ·rw [<-r1.length];exact Nat.le_trans c.2.2 big
    ·obtain⟨R',E'⟩:=R.new (o:=.lst (List.replicate j.toNat xs).flatten) hp ⟨_,Qg,RUs.mono Qu (r1.rep j.toNat)⟩
     exact k _ _ _ E' R' ⟨p,by rw [<-R.h.len];exact Qz,rfl⟩
   ·cases e
  ·cases e
 have e:(QaU u w).map (fun r=>(r,hs))=some (u',hs'):=by
  cases u with
  | ref a=>exact absurd ⟨a,rfl⟩ isr
  | _=>exact e
 rw [Option.map_eq_some_iff]at e;obtain⟨z,h,q⟩:=e;cases q;refine .inl ?_;have k:∀v',RU A α u' v'->Q v' H:=fun v' r'=>k α v' H Ext.refl R r';unfold QaU at h;split at h
 ·split at h
  ·rename_i c;cases h;cases Zi ru;cases Zi rw;exact⟨_,_,rfl,rfl,QiL c,k _ ⟨_,rfl,Cg.refl _ _⟩⟩
  ·cases h
 ·split at h
  ·rename_i c;cases h;obtain⟨i',rfl,a⟩:=ru;cases Zi rw;exact⟨i',_,rfl,rfl,CMul.ok (.inr (Zm c)),k _ ⟨_,rfl,Qi8 a⟩⟩
  ·cases h
 ·cases h
noncomputable def Qlz(i j:Int):Prop:=0<j/\j<1606938044258990275541962092341162602522202993782792835301376
theorem Qej{X:Cx}:OpR X (binaryOp .FloorDiv) (rI Qlz fun i j=>.int (i / j)):=opI fun i j _ _ _ _ _ hc q=>by
 have h1:(0:Int) < j:=hc.1;have h2:j<1606938044258990275541962092341162602522202993782792835301376:=hc.2
 have h3:j.natAbs.log2<9000:=by
  have h4:j.natAbs<2 ^ 9000:=Nat.lt_of_lt_of_le (show j.natAbs<2 ^ 200 by omega) (Nat.pow_le_pow_right (by decide) (by decide))
  rcases Nat.eq_zero_or_pos j.natAbs with z | z
  ·rw [z];decide
  ·exact(Nat.log2_lt (by omega)).mpr h4
 exact floordiv_int (by omega) (by rw [Int.fdiv_eq_ediv_of_nonneg i (by omega)];exact q) (.inl (PyProof.noPylong_of_log2 h3))
theorem Qem:OpS X T A .FloorDiv:=QaR Qej (fun _ _ _=>rfl) fun {α u w z v y H Q} h ru rw k=>by
 unfold Ja at h;split at h
 ·split at h
  ·rename_i c;cases h;cases Zi ru;cases Zi rw;simp only [Bool.and_eq_true,decide_eq_true_eq]at c;exact⟨_,_,rfl,rfl,c,k _ ⟨_,rfl,Cg.refl _ _⟩⟩
  ·cases h
 ·split at h
  ·rename_i c;cases h;obtain⟨i',rfl,a⟩:=ru;cases Zi rw;simp only [Bool.and_eq_true,decide_eq_true_eq]at c;exact⟨i',_,rfl,rfl,c.1,k _ ⟨_,rfl,Qja a c.1.1 c.2⟩⟩
  ·cases h
 ·cases h
theorem Qgp:OpS X T A .Mod:=QaR Qiy (fun _ _ _=>rfl) fun {α u w z v y H Q} h ru rw k=>by
 unfold Qeq at h;split at h
 ·split at h
  ·rename_i c;cases h;cases Zi ru;cases Zi rw;exact⟨_,_,rfl,rfl,c,k _ ⟨_,rfl,Cg.refl _ _⟩⟩
  ·cases h
 ·split at h
  ·rename_i c;cases h;obtain⟨i',rfl,a⟩:=ru;cases Zi rw;simp only [Bool.and_eq_true,decide_eq_true_eq]at c
   exact⟨i',_,rfl,rfl,c.1,k _ ⟨_,rfl,by rw [Qi9 a c.1 c.2];exact Cg.refl _ _⟩⟩
  ·cases h
 ·cases h
theorem Qgn:OpS X T A .Pow:=QaR Qiu (fun _ _ _=>rfl) fun {α u w z v y H Q} h ru rw k=>by
 unfold QlT at h;split at h
 ·split at h
  ·rename_i i j c;cases h;cases Zi ru;cases Zi rw;simp only [Bool.and_eq_true,decide_eq_true_eq]at c;obtain⟨h1,h2⟩:=Zm c.2
   exact⟨_,_,rfl,rfl,⟨c.1.1,by omega,by omega⟩,k _ ⟨_,rfl,Cg.refl _ _⟩⟩
  ·cases h
 ·cases h
theorem Qgq:OpS X T A .Add:=by
 refine⟨_,OpR.or QiF (OpR.or Qbb (OpR.or QiE (OpR.or Qek Qgl))),?_⟩;intro α u w u' hs hs' v y H Q h ru rw R k;have h:Qe1 u w hs=some (u',hs'):=h;unfold Qe1 at h;split at h
 ·cases h;obtain⟨i',rfl,a⟩:=ru;obtain⟨j',rfl,b⟩:=rw;exact .inl ⟨i',j',rfl,rfl,k α _ H Ext.refl R ⟨_,rfl,Qfx a b⟩⟩
 ·split at h
  ·rename_i c;cases h;cases(show v=_ from ru);cases(show y=_ from rw);refine .inr (.inl ⟨_,_,rfl,rfl,?_,k α _ H Ext.refl R ?_⟩)
   ·rw [Zp,Zp];exact Nat.le_trans c big
   ·rw [QfM];rfl
  ·cases h
 ·rename_i a b;obtain⟨pa,ha,rfl⟩:=ru;obtain⟨pb,hb,rfl⟩:=rw;split at h
  ·rename_i ox oy e1 e2;have o1:=R.h.ob _ pa _ ha e1;have o2:=R.h.ob _ pb _ hb e2;unfold QkI at h;split at h
   ·rename_i xs ys;split at h
    ·rename_i c;cases h;obtain⟨vs,q1,r1⟩:=o1;obtain⟨ws,q2,r2⟩:=o2;refine .inr (.inr (.inl ⟨pa,pb,vs,ws,rfl,rfl,q1,q2,?_,fun p hp=>?_⟩))
     ·rw [<-r1.length,<-r2.length];exact Nat.le_trans c big
     ·obtain⟨R',E'⟩:=R.new (o:=.lst (xs++ys)) hp ⟨_,Qg,RUs.mono Qu (r1.append r2)⟩
      exact k _ _ _ E' R' ⟨p,by rw [<-R.h.len];exact Qz,rfl⟩
    ·cases h
   ·rename_i xs ys;obtain⟨vs,q1,r1⟩:=o1;obtain⟨ws,q2,r2⟩:=o2;split at h
    ·rename_i z;cases h;have z:=List.isEmpty_iff.mp z;subst z;cases r1;exact .inr (.inr (.inr (.inl ⟨pa,pb,ws,rfl,rfl,SqT.of q1,SqT.of q2,k α _ H Ext.refl R ⟨pb,hb,rfl⟩⟩)))
    ·rename_i nx
     have nv:vs≠[]:=fun z=>nx (by rw [z]at r1;cases r1;rfl)
     split at h
     ·rename_i c
      have sz:vs.length+ws.length<=sizeLine:=by
       rw [<-r1.length,<-r2.length];exact Nat.le_trans c big
      split at h
      ·rename_i z;cases h;have z:=List.isEmpty_iff.mp z;subst z;cases r2;exact .inr (.inr (.inr (.inr ⟨pa,pb,vs,[],rfl,rfl,SqT.of q1,SqT.of q2,nv,sz,fun _=>k α _ H Ext.refl R ⟨pa,ha,rfl⟩,fun z=>absurd rfl z⟩)))
      ·rename_i ny;cases h
       refine .inr (.inr (.inr (.inr ⟨pa,pb,vs,ws,rfl,rfl,SqT.of q1,SqT.of q2,nv,sz,fun z=>absurd (by rw [z]at r2;cases r2;rfl) ny,fun _ p hp=>?_⟩)))
       obtain⟨R',E'⟩:=R.new (o:=.tup (xs++ys)) hp ⟨_,Qg,RUs.mono Qu (r1.append r2)⟩
       exact k _ _ _ E' R' ⟨p,by rw [<-R.h.len];exact Qz,rfl⟩
     ·cases h
   ·cases h
  ·cases h
 ·cases h
theorem opS(o:Operator):OpS X T A o:=by
 cases o with
 | Add=>exact Qgq
 | Sub=>exact Qgm
 | Mult=>exact Qgo
 | FloorDiv=>exact Qem
 | Mod=>exact Qgp
 | Pow=>exact Qgn
 | _=>exact Qel fun u w hs=>rfl
end
end Iv
namespace Iv
open PySem PySem.Spec PyProof.Rows L2
section
variable {X:Cx}{T:Tbl}{A:Adr}{α:List Addr}{hs:Hs}{H:Hp}{u w:U}{v y:V}
theorem Q5{xs:List U}(tx:Txt T A X.K X.mg)(R:Rep T A X.K α hs H)(h:Zg T u hs=some xs)(r:RU A α u v):∃a vs,v=.ref a/\RUs A α xs vs/\SqL X.K H a vs:=by
 cases u with
 | ref n =>
  obtain⟨a,ha,rfl⟩:=r;simp only [Zg]at h;split at h
  ·rename_i ys e;cases h;obtain⟨vs,q,rr⟩:=R.h.ob n a _ ha e;exact⟨a,vs,rfl,rr,SqL.of q⟩
  ·cases h
 | con k =>
  simp only [Zg]at h;split at h
  ·rename_i ys e;cases h;obtain⟨vs,rr,q⟩:=tx.co k _ e
   exact⟨_,vs,r,RUs.mono (fun n a e=>by simp at e) rr,q H⟩
  ·cases h
 | scr =>
  simp only [Zg]at h;cases h;obtain⟨vs,rr,q⟩:=R.s.sq (α:=α);exact⟨_,vs,r,rr,q⟩
 | _=>simp [Zg]at h
theorem Yb{xs:List U}(tx:Txt T A X.K X.mg)(R:Rep T A X.K α hs H)(h:YW T u hs=some xs)(r:RU A α u v):∃a vs,v=.ref a/\RUs A α xs vs/\SqT X.K H a vs:=by
 cases u with
 | ref n =>
  obtain⟨a,ha,rfl⟩:=r;simp only [YW]at h;split at h
  ·rename_i ys e;cases h;obtain⟨vs,q,rr⟩:=R.h.ob n a _ ha e;exact⟨a,vs,rfl,rr,SqT.of q⟩
  ·cases h
 | con k =>
  simp only [YW]at h;split at h
  ·rename_i ys e;cases h;obtain⟨vs,rr,q⟩:=tx.co k _ e
   exact⟨_,vs,r,RUs.mono (fun n a e=>by simp at e) rr,q H⟩
  ·cases h
 | _=>simp [YW]at h
noncomputable def scP:U->PyData
 | .bl b=>.bool b
 | .int i _=>.int i
 | .str x=>.str ⟨x.toArray⟩
 | _=>.none
noncomputable def toP(T:Tbl):Nat->U->Hs->PyData
 | 0,_,_=>.none
 | n+1,u,hs=>match Zg T u hs with
  | some xs=>.list (xs.map fun x=>toP T n x hs)
  | none=>match YW T u hs with
   | some xs=>.tuple (xs.map fun x=>toP T n x hs)
   | none=>scP u
theorem Yg{h:Heap}{f:U->PyData}:∀{xs:List U} {vs:List V} {its:List Value},RUs A α xs vs->Vals vs its->(∀x∈xs,∀v u,RU A α x v->RelV v u->∃as,Reads h u (f x) as)->∃as,ReadsAll h its (xs.map f) as
 | _,_,_,.nil,.nil,_=>⟨[],.nil⟩
 | _,_,_,.cons (a:=x) r t,.cons q p,k=>by
  obtain⟨as,h1⟩:=k x List.mem_cons_self _ _ r q;obtain⟨bs,h2⟩:=Yg t p fun x m=>k x (List.mem_cons_of_mem _ m);exact⟨as++bs,.cons h1 h2⟩
theorem ZI{pins:List (Addr×Obj)}{s:Shared}{σ:L2.St}(tx:Txt T A X.K X.mg)(I:Inv X pins σ H s)(R:Rep T A X.K α hs H):∀(n:Nat) {u:U} {v:V} {z:Value},okW T n u hs=true->RU A α u v->RelV v z->∃as,Reads s.heap z (toP T n u hs) as
 | 0,_,_,_,h,_,_=>by cases h
 | n+1,u,v,z,h,r,q=>by
  have ih:=fun {u:U} {v:V} {z:Value}=>ZI tx I R n (u:=u) (v:=v) (z:=z);simp only [okW,toP]at h ⊢
  cases el:Zg T u hs with
  | some xs =>
   rw [el]at h;have h:=List.all_eq_true.mp h;obtain⟨a,vs,rfl,rr,sq⟩:=Q5 tx R el r;cases q;obtain⟨its,rv,pl,_⟩:=I.list sq;obtain⟨o,ho,hc,m,hd⟩:=pl.isList;obtain⟨as,ra⟩:=Yg (h:=s.heap) (f:=fun x=>toP T n x hs) rr rv fun x m v u h1 h2=>ih (h x m) h1 h2;exact⟨_,.list ho hc hd ra⟩
  | none =>
   rw [el]at h
   cases et:YW T u hs with
   | some xs =>
    rw [et]at h;have h:=List.all_eq_true.mp h;obtain⟨a,vs,rfl,rr,sq⟩:=Yb tx R et r;cases q;obtain⟨its,rv,pl,_⟩:=I.tuple sq;obtain⟨o,ho,hc,m,hd⟩:=pl;obtain⟨as,ra⟩:=Yg (h:=s.heap) (f:=fun x=>toP T n x hs) rr rv fun x m v u h1 h2=>ih (h x m) h1 h2;exact⟨_,.tuple ho hc hd ra⟩
   | none =>
    rw [et]at h
    cases u with
    | non=>cases(show v=_ from r);cases q;exact⟨[],.none⟩
    | bl b=>cases(show v=_ from r);cases q;exact⟨[],.bool b⟩
    | int i m =>
     have h:(m==0)=true:=h;have h:=eq_of_beq h;subst h;cases Zi r;obtain⟨t,rfl⟩:=q;exact⟨[],.int i t⟩
    | str x=>cases(show v=_ from r);obtain⟨t,rfl⟩:=q;exact⟨[],.str _ t⟩
    | _=>cases h
theorem Qaj{f:U->PyData}{n:Nat}:∀{xs:List U},(∀x∈xs,(f x).canLay0=true/\(f x).depth<=n)->PyData.canLayAll0 (xs.map f)=true/\PyData.depthAll (xs.map f)<=n
 | [],_=>⟨rfl,Nat.zero_le _⟩
 | x::r,h=>by
  obtain⟨h1,h2⟩:=h x List.mem_cons_self;obtain⟨h3,h4⟩:=Qaj (xs:=r) fun y m=>h y (List.mem_cons_of_mem _ m);refine⟨?_,?_⟩
  ·show((f x).canLay0&&PyData.canLayAll0 (r.map f))=true;rw [h1,h3];rfl
  ·show max (f x).depth (PyData.depthAll (r.map f))<=n;omega
theorem Jz:∀(n:Nat) {u:U},okW T n u hs=true->(toP T n u hs).canLay0=true/\(toP T n u hs).depth<=n
 | 0,_,h=>by cases h
 | n+1,u,h=>by
  have ih:=fun(u:U)=>Jz n (u:=u);simp only [okW,toP]at h ⊢
  cases el:Zg T u hs with
  | some xs =>
   rw [el]at h;obtain⟨h1,h2⟩:=Qaj (f:=fun x=>toP T n x hs) (n:=n) fun x m=>ih x (List.all_eq_true.mp h x m);exact⟨h1,Nat.succ_le_succ h2⟩
  | none =>
   rw [el]at h
   cases et:YW T u hs with
   | some xs =>
    rw [et]at h;obtain⟨h1,h2⟩:=Qaj (f:=fun x=>toP T n x hs) (n:=n) fun x m=>ih x (List.all_eq_true.mp h x m);exact⟨h1,Nat.succ_le_succ h2⟩
   | none =>
    rw [et]at h
    cases u with
    | str x =>
     refine⟨?_,Nat.zero_le _⟩;show PyData.strOk ⟨x.toArray⟩=true;unfold PyData.strOk;have h:=List.all_eq_true.mp h;rw [Array.all_eq_true'];intro c hc
     have:=of_decide_eq_true (h c (by simpa using hc))
     exact decide_eq_true (by omega)
    | non=>exact⟨rfl,Nat.zero_le _⟩
    | bl b=>exact⟨rfl,Nat.zero_le _⟩
    | int i m=>exact⟨rfl,Nat.zero_le _⟩
    | _=>cases h
theorem Qap{f:U->PyData}{g:U->U->Bool}:∀{xs ys:List U},(∀x∈xs,∀y∈ys,PyData.eqv (f x) (f y)=g x y)->PyData.eqvAll (xs.map f) (ys.map f)=((xs.length==ys.length)&&(xs.zip ys).all fun p=>g p.1 p.2)
 | [],[],_=>rfl
 | [],_::_,_=>rfl
 | _::_,[],_=>rfl
 | x::r,y::t,h=>by
  have h1:=h x List.mem_cons_self y List.mem_cons_self;have h2:=Qap (xs:=r) (ys:=t) fun a ma b mb=>h a (List.mem_cons_of_mem _ ma) b (List.mem_cons_of_mem _ mb);show(PyData.eqv (f x) (f y)&&PyData.eqvAll (r.map f) (t.map f))=_;rw [h1,h2];simp only [List.length_cons,List.zip_cons_cons,List.all_cons]
  have e:(r.length+1==t.length+1)=(r.length==t.length):=by simp
  rw [e];cases g x y<;>cases(r.length==t.length)<;>simp
theorem QfL{x y:List Nat}:((⟨x.toArray⟩:Str)==⟨y.toArray⟩)=(x==y):=by
 by_cases h:x=y
 ·subst h;simp
 ·have:(⟨x.toArray⟩:Str)≠⟨y.toArray⟩:=fun z=>h (by
   have:=congrArg (fun s:Str=>s.cps.toList) z
   simpa using this)
  rw [beq_eq_false_iff_ne.mpr this,beq_eq_false_iff_ne.mpr h]
theorem QcB:∀(n:Nat) {u w:U},okW T n u hs=true->okW T n w hs=true->PyData.eqv (toP T n u hs) (toP T n w hs)=eqW T n u w hs
 | 0,_,_,h,_=>by cases h
 | n+1,u,w,h,h'=>by
  have ih:=fun(u w:U)=>QcB n (u:=u) (w:=w);simp only [okW,toP,eqW]at h h' ⊢
  cases el:Zg T u hs with
  | some xs =>
   rw [el]at h
   cases el':Zg T w hs with
   | some ys =>
    rw [el']at h';exact Qap (g:=fun a b=>eqW T n a b hs) fun x mx y my=>ih x y (List.all_eq_true.mp h x mx) (List.all_eq_true.mp h' y my)
   | none =>
    rw [el']at h'
    cases et':YW T w hs with
    | some ys=>rfl
    | none=>rw [et']at h';cases w<;>first | rfl | (cases h';done)
  | none =>
   rw [el]at h
   cases et:YW T u hs with
   | some xs =>
    rw [et]at h
    cases el':Zg T w hs with
    | some ys=>rfl
    | none =>
     rw [el']at h'
     cases et':YW T w hs with
     | some ys =>
      rw [et']at h';exact Qap (g:=fun a b=>eqW T n a b hs) fun x mx y my=>ih x y (List.all_eq_true.mp h x mx) (List.all_eq_true.mp h' y my)
     | none=>rw [et']at h';cases w<;>first | rfl | (cases h';done)
   | none =>
    rw [et]at h
    cases el':Zg T w hs with
    | some ys=>cases u<;>first | rfl | (cases h;done)
    | none =>
     rw [el']at h'
     cases et':YW T w hs with
     | some ys=>cases u<;>first | rfl | (cases h;done)
     | none =>
      rw [et']at h'
      cases u<;>first | (cases h;done) | (cases w<;>first | (cases h';done) | rfl | exact QfL)
noncomputable def QlR(T:Tbl)(A:Adr)(K:PySem.W.Frag)(neg:Bool):R2:=fun x y H Q=>∃α u w hs,RU A α u x/\RU A α w y/\Rep T A K α hs H/\okW T 20 u hs=true/\okW T 20 w hs=true/\Q (.bl (if neg then !(eqW T 20 u w hs)else eqW T 20 u w hs)) H
theorem ZG{d:PyData}{n:Nat}(h:d.canLay0=true/\d.depth<=n)(hn:n<=64):SeqAt.shaped d=true:=by
 unfold SeqAt.shaped;rw [h.1,Bool.true_and];exact decide_eq_true (Nat.le_trans h.2 hn)
theorem QiD(tx:Txt T A X.K X.mg)(hu:X.A.units+64<cLine):OpR X (compareOp .Eq) (QlR T A X.K false):=by
 intro pins s σ H x y v u Q I rx ry h;obtain⟨α,u1,w1,hs,r1,r2,R,o1,o2,q⟩:=h;obtain⟨as,ra⟩:=ZI tx I R 20 o1 r1 rx;obtain⟨bs,rb⟩:=ZI tx I R 20 o2 r2 ry
 refine eq_dataH ra rb (ZG (Jz 20 o1) (by decide)) (ZG (Jz 20 o2) (by decide)) hu ?_
 rw [QcB 20 o1 o2];exact⟨.bl _,H,I,rfl,q⟩
noncomputable def QlN(T:Tbl)(A:Adr)(K:PySem.W.Frag)(b:Bool):R2:=fun x y H Q=>∃α u w hs,RU A α u x/\RU A α w y/\Rep T A K α hs H/\Qev T u w hs=true/\Q (.bl b) H
theorem QaW{pins:List (Addr×Obj)}{s:Shared}{σ:L2.St}{H:Hp}{α:List Addr}{hs:Hs}{u w:U}{x y:V}{v z:Value}(tx:Txt T A X.K X.mg)(I:Inv X pins σ H s)(R:Rep T A X.K α hs H)(h:Qev T u w hs=true)(r1:RU A α u x)(r2:RU A α w y)(rx:RelV x v)(ry:RelV y z):
  ∃(a b:Addr) (i1 i2:List Value),v=.ref a/\z=.ref b/\s.heap.IsList a i1.toArray/\s.heap.IsList b i2.toArray/\(i1.toArray.size != i2.toArray.size)=true:=by
 unfold Qev at h;split at h
 ·rename_i xs ys e1 e2;obtain⟨a,vs,rfl,rr,sq⟩:=Q5 tx R e1 r1;obtain⟨b,ws,rfl,rr',sq'⟩:=Q5 tx R e2 r2;obtain⟨i1,q1,p1,_⟩:=I.list sq;obtain⟨i2,q2,p2,_⟩:=I.list sq';cases rx;cases ry;have l1:=rr.length;have l2:=rr'.length;have l3:=q1.length;have l4:=q2.length;have h:=of_decide_eq_true h;refine⟨a,b,i1,i2,rfl,rfl,p1.isList,p2.isList,?_⟩;simp only [List.size_toArray,bne_iff_ne,ne_eq];omega
 ·cases h
theorem QiC(tx:Txt T A X.K X.mg)(hu:X.A.units+64<cLine):OpR X (compareOp .Eq) (QlN T A X.K false):=by
 intro pins s σ H x y v u Q I rx ry h;obtain⟨α,u1,w1,hs,r1,r2,R,o1,q⟩:=h;obtain⟨a,b,i1,i2,rfl,rfl,p1,p2,z⟩:=QaW tx I R o1 r1 r2 rx ry
 exact SeqAt.RcAt.lists_lengths p1 p2 z (by omega) _ _ _ _ ⟨.bl _,H,I,rfl,q⟩
theorem Qiw(tx:Txt T A X.K X.mg)(hu:X.A.units+64<cLine):OpR X (compareOp .NotEq) (QlN T A X.K true):=by
 intro pins s σ H x y v u Q I rx ry h;obtain⟨α,u1,w1,hs,r1,r2,R,o1,q⟩:=h;obtain⟨a,b,i1,i2,rfl,rfl,p1,p2,z⟩:=QaW tx I R o1 r1 r2 rx ry
 exact SeqAt.RcNeAt.lists_lengths p1 p2 z (by omega) _ _ _ _ ⟨.bl _,H,I,rfl,q⟩
noncomputable def Qh2(T:Tbl)(A:Adr)(K:PySem.W.Frag)(b:Bool):R2:=fun x y H Q=>∃α u w hs,RU A α u x/\RU A α w y/\Rep T A K α hs H/\Qd3 T u w hs=true/\Q (.bl b) H
theorem Jj{α:List Addr}:∀{xs:List U} {vs ws:List V} {i1 i2:List Value},(xs.all fun x=>match x with | .ref _=>true | _=>false)=true->RUs A α xs vs->RUs A α xs ws->Vals vs i1->Vals ws i2->i1=i2
 | [],_,_,_,_,_,r1,r2,q1,q2=>by cases r1;cases r2;cases q1;cases q2;rfl
 | x::xs,_,_,_,_,h,.cons a r1,.cons b r2,.cons c q1,.cons d q2=>by
  rw [List.all_cons,Bool.and_eq_true]at h
  cases x with
  | ref n =>
   obtain⟨p,hp,rfl⟩:=a;obtain⟨p',hp',rfl⟩:=b;rw [hp]at hp';cases hp';cases c;cases d;rw [Jj h.2 r1 r2 q1 q2]
  | _=>exact absurd h.1 (by simp)
theorem QaD{pins:List (Addr×Obj)}{s:Shared}{σ:L2.St}{H:Hp}{α:List Addr}{hs:Hs}{u w:U}{x y:V}{v z:Value}(tx:Txt T A X.K X.mg)(I:Inv X pins σ H s)(R:Rep T A X.K α hs H)(h:Qd3 T u w hs=true)(r1:RU A α u x)(r2:RU A α w y)(rx:RelV x v)(ry:RelV y z):
  ∃(a b:Addr) (i1:List Value),v=.ref a/\z=.ref b/\s.heap.IsList a i1.toArray/\s.heap.IsList b i1.toArray:=by
 unfold Qd3 at h;split at h
 ·rename_i xs ys e1 e2;rw [Bool.and_eq_true]at h;obtain⟨h0,h⟩:=h;have h0:=of_decide_eq_true h0;subst h0;obtain⟨a,vs,rfl,rr,sq⟩:=Q5 tx R e1 r1;obtain⟨b,ws,rfl,rr',sq'⟩:=Q5 tx R e2 r2;obtain⟨i1,q1,p1,_⟩:=I.list sq;obtain⟨i2,q2,p2,_⟩:=I.list sq';cases rx;cases ry;cases Jj h rr rr' q1 q2;exact⟨a,b,i1,rfl,rfl,p1.isList,p2.isList⟩
 ·cases h
theorem QiB(tx:Txt T A X.K X.mg)(hu:X.A.units+64<cLine):OpR X (compareOp .Eq) (Qh2 T A X.K true):=by
 intro pins s σ H x y v u Q I rx ry h;obtain⟨α,u1,w1,hs,r1,r2,R,o1,q⟩:=h;obtain⟨a,b,i1,rfl,rfl,p1,p2⟩:=QaD tx I R o1 r1 r2 rx ry
 have rc:=SeqAt.RcAt.lists (A:=X.A) (e:=fun _=>true) p1 p2 rfl (by omega) fun j h1 h2=>SeqAt.EqAt.same _
 have al:(List.range i1.toArray.size).all (fun _=>true)=true:=by simp
 rw [al]at rc;exact rc _ _ _ _ ⟨.bl _,H,I,rfl,q⟩
theorem Qiv(tx:Txt T A X.K X.mg)(hu:X.A.units+64<cLine):OpR X (compareOp .NotEq) (Qh2 T A X.K false):=by
 intro pins s σ H x y v u Q I rx ry h;obtain⟨α,u1,w1,hs,r1,r2,R,o1,q⟩:=h;obtain⟨a,b,i1,rfl,rfl,p1,p2⟩:=QaD tx I R o1 r1 r2 rx ry
 have rc:=SeqAt.RcNeAt.lists (A:=X.A) (e:=fun _=>true) p1 p2 rfl (by omega) fun j h1 h2=>SeqAt.EqAt.same _
 have al:(!(List.range i1.toArray.size).all (fun _=>true))=false:=by simp
 rw [al]at rc;exact rc _ _ _ _ ⟨.bl _,H,I,rfl,q⟩
theorem Qix(tx:Txt T A X.K X.mg)(hu:X.A.units+64<cLine):OpR X (compareOp .NotEq) (QlR T A X.K true):=by
 intro pins s σ H x y v u Q I rx ry h;obtain⟨α,u1,w1,hs,r1,r2,R,o1,o2,q⟩:=h;obtain⟨as,ra⟩:=ZI tx I R 20 o1 r1 rx;obtain⟨bs,rb⟩:=ZI tx I R 20 o2 r2 ry
 refine ne_dataH ra rb (ZG (Jz 20 o1) (by decide)) (ZG (Jz 20 o2) (by decide)) hu ?_
 rw [QcB 20 o1 o2];exact⟨.bl _,H,I,rfl,q⟩
end
end Iv
namespace Iv
open PySem PySem.Spec PyProof.Rows L2
section
variable {κ κ':Type}[DecidableEq κ][DecidableEq κ']{P:κ->κ'->Prop}{A:Adr}{α:List Addr}{w:κ}{k:κ'}{u:U}{v:V}
noncomputable abbrev RG(P:κ->κ'->Prop)(A:Adr)(α:List Addr):List (κ×U)->List (κ'×V)->Prop:=Paired fun p q=>P p.1 q.1/\RU A α p.2 q.2
noncomputable def Inj(P:κ->κ'->Prop):Prop:=∀a b k l,P a k->P b l->(a=b↔k=l)
theorem RG.look(inj:Inj P)(hk:P w k):∀{kvs:List (κ×U)} {kv:List (κ'×V)},RG P A α kvs kv->(Z0 kvs w=none/\Zl kv k=none)\/∃u v,Z0 kvs w=some u/\Zl kv k=some v/\RU A α u v
 | _,_,.nil=>.inl ⟨rfl,rfl⟩
 | _,_,.cons (a:=p) (b:=q) r t=>by
  by_cases h:p.1=w
  ·have h':q.1=k:=(inj _ _ _ _ r.1 hk).mp h
   exact .inr ⟨p.2,q.2,by simp [Z0,List.find?_cons,h],by simp [Zl,List.find?_cons,h'],r.2⟩
  ·have h':¬q.1=k:=fun z=>h ((inj _ _ _ _ r.1 hk).mpr z);have ih:=RG.look inj hk t
   have e1:∀l,Z0 (p::l) w=Z0 l w:=fun l=>by simp [Z0,List.find?_cons,h]
   have e2:∀l,Zl (q::l) k=Zl l k:=fun l=>by simp [Zl,List.find?_cons,h']
   rw [e1,e2];exact ih
theorem RG.any(inj:Inj P)(hk:P w k):∀{kvs:List (κ×U)} {kv:List (κ'×V)},RG P A α kvs kv->(kvs.any fun p=>decide (p.1=w))=(kv.any fun p=>decide (p.1=k))
 | _,_,.nil=>rfl
 | _,_,.cons (a:=p) (b:=q) r t=>by
  rw [List.any_cons,List.any_cons,RG.any inj hk t,decide_eq_decide.mpr (inj _ _ _ _ r.1 hk)]
theorem RG.repl(inj:Inj P)(hk:P w k)(ru:RU A α u v):∀{kvs:List (κ×U)} {kv:List (κ'×V)},RG P A α kvs kv->RG P A α (kvs.map fun p=>if p.1=w then(p.1,u)else p) (kv.map fun p=>if p.1=k then(p.1,v)else p)
 | _,_,.nil=>.nil
 | _,_,.cons (a:=p) (b:=q) r t=>by
  refine .cons ?_ (RG.repl inj hk ru t);by_cases h:p.1=w
  ·have h':=(inj _ _ _ _ r.1 hk).mp h;simp only [h,h',if_true];exact⟨hk,ru⟩
  ·have h':¬q.1=k:=fun z=>h ((inj _ _ _ _ r.1 hk).mpr z);simp only [h,h',if_false];exact r
theorem RG.put(inj:Inj P)(hk:P w k)(ru:RU A α u v){kvs:List (κ×U)}{kv:List (κ'×V)}(r:RG P A α kvs kv):RG P A α (Qfd kvs w u) (ZS kv k v):=by
 unfold Qfd ZS;rw [RG.any inj hk r];split
 ·exact RG.repl inj hk ru r
 ·exact Paired.snoc r ⟨hk,ru⟩
theorem RG.merge(inj:Inj P){more:List (κ×U)}{mv:List (κ'×V)}(m:RG P A α more mv):∀{kvs:List (κ×U)} {kv:List (κ'×V)},RG P A α kvs kv->RG P A α (more.foldl (fun acc p=>Qfd acc p.1 p.2) kvs) (mv.foldl (fun acc p=>ZS acc p.1 p.2) kv):=by
 induction m with
 | nil=>intro _ _ r;exact r
 | cons q _ ih=>intro _ _ r;exact ih (RG.put inj q.1 q.2 r)
end
theorem JD:Inj RK:=fun a b k l h h'=>by
 cases a<;>cases b<;>simp only [RK]at h h'<;>first | exact h.elim | exact h'.elim | skip
 ·obtain⟨rfl,rfl⟩:=h;obtain⟨rfl,rfl⟩:=h';simp
 ·obtain⟨rfl,rfl⟩:=h;subst h';simp
 ·subst h;obtain⟨rfl,rfl⟩:=h';simp
 ·subst h h';simp
theorem Qcn:Inj RKs:=fun a b k l h=>by
 induction h generalizing b l with
 | nil =>
  intro h'
  cases h' with
  | nil=>simp
  | cons=>simp
 | cons p t ih =>
  intro h'
  cases h' with
  | nil=>simp
  | cons q t' =>
   have i1:=JD _ _ _ _ p q;have i2:=ih _ _ t';simp only [List.cons.injEq,i1,i2]
section
variable {X:Cx}{T:Tbl}{A:Adr}{K:PySem.W.Frag}{α:List Addr}{hs:Hs}{H:Hp}{n:Nat}{a:Addr}{o:O}{w:U}{y:V}
theorem QaX(hk:Y5 w=true)(r:RU A α w y):∃k,RK w k/\y=kV k:=by
 cases w with
 | int i m =>
  cases m with
  | zero=>obtain⟨j,rfl,c⟩:=r;cases c.exact;exact⟨Sum.inl i,⟨rfl,rfl⟩,rfl⟩
  | succ m=>cases hk
 | str x=>cases(show y=_ from r);exact⟨Sum.inr _,rfl,rfl⟩
 | _=>cases hk
theorem Qce:∀{ks:List U} {vs:List V},ks.all Y5=true->RUs A α ks vs->∃k,RKs ks k/\vs=k.map kV
 | _,_,_,.nil=>⟨[],.nil,rfl⟩
 | _,_,h,.cons r t=>by
  rw [List.all_cons,Bool.and_eq_true]at h;obtain⟨k,h1,rfl⟩:=QaX h.1 r;obtain⟨ks,h2,rfl⟩:=Qce h.2 t;exact⟨k::ks,.cons h1 h2,rfl⟩
theorem Qhs{t:List U}(R:Rep T A K α hs H)(h:tkU w hs=some t)(r:RU A α w y):∃b k,y=.ref b/\RKs t k/\H b=some (.tup (k.map kV)):=by
 cases w with
 | ref m =>
  obtain⟨b,hb,rfl⟩:=r;simp only [tkU]at h;split at h
  ·rename_i ks e;split at h
   ·rename_i c;cases h;obtain⟨vs,e1,rr⟩:=R.h.ob m b _ hb e;obtain⟨k,rk,rfl⟩:=Qce c rr;exact⟨b,k,rfl,rk,e1⟩
   ·cases h
  ·cases h
 | _=>cases h
theorem QcE{r:Option U}(R:Rep T A K α hs H)(ho:hs[n]?=some o)(ha:α[n]?=some a)(h:Qaq o w hs=some r)(rw':RU A α w y):(r=none/\DGet H a y none)\/∃u v,r=some u/\DGet H a y (some v)/\RU A α u v:=by
 cases o with
 | dic kvs =>
  obtain⟨kv,e,rd⟩:=R.h.ob n a _ ha ho;simp only [Qaq]at h;split at h
  ·rename_i c;cases h;obtain⟨k,rk,rfl⟩:=QaX c rw';have g:=DGet.k (k:=k) e
   rcases RG.look JD rk rd with⟨h1,h2⟩ | ⟨u,v,h1,h2,h3⟩
   ·rw [h2]at g;exact .inl ⟨h1,g⟩
   ·rw [h2]at g;exact .inr ⟨u,v,h1,g,h3⟩
  ·cases h
 | fzd kvs =>
  obtain⟨kv,ob,e,rd⟩:=R.h.ob n a _ ha ho;simp only [Qaq]at h;split at h
  ·rename_i c;cases h;obtain⟨k,rk,rfl⟩:=QaX c rw';have g:DGet H a (kV k) (Zl kv k):=.inl ⟨kv,k,.inr ⟨ob,e⟩,rfl,rfl⟩
   rcases RG.look JD rk rd with⟨h1,h2⟩ | ⟨u,v,h1,h2,h3⟩
   ·rw [h2]at g;exact .inl ⟨h1,g⟩
   ·rw [h2]at g;exact .inr ⟨u,v,h1,g,h3⟩
  ·cases h
 | dct kvs =>
  obtain⟨kv,e,rd⟩:=R.h.ob n a _ ha ho;simp only [Qaq,Option.map_eq_some_iff]at h;obtain⟨t,ht,rfl⟩:=h;obtain⟨b,k,rfl,rk,hb⟩:=Qhs R ht rw';have g:=DGet.t e hb
  rcases RG.look Qcn rk rd with⟨h1,h2⟩ | ⟨u,v,h1,h2,h3⟩
  ·rw [h2]at g;exact .inl ⟨h1,g⟩
  ·rw [h2]at g;exact .inr ⟨u,v,h1,g,h3⟩
 | _=>cases h
theorem RG.length{κ κ':Type}{P:κ->κ'->Prop}{kvs:List (κ×U)}{kv:List (κ'×V)}(r:RG P A α kvs kv):kvs.length=kv.length:=Paired.length r
theorem Qg1{u:U}{v:V}{hs':Hs}(R:Rep T A K α hs H)(ho:hs[n]?=some o)(ha:α[n]?=some a)(h:QeQ n o w u hs=some hs')(rw':RU A α w y)(ru:RU A α u v):∃H',DPut H a y v H'/\Rep T A K α hs' H'/\Ext α α H H':=by
 cases o with
 | dic kvs =>
  obtain⟨kv,e,rd⟩:=R.h.ob n a _ ha ho;simp only [QeQ]at h;split at h
  ·rename_i c;cases h;obtain⟨k,rk,rfl⟩:=QaX c.1 rw';have l:=RG.length rd;obtain⟨R',E'⟩:=R.put (o:=.dic (Qfd kvs w u)) (ho:=.dK (ZS kv k v)) ha ⟨_,Qg,RG.put JD rk ru rd⟩
   exact⟨_,DPut.k e (Nat.lt_of_lt_of_le (by omega:kv.length<1000000) big),R',E'⟩
  ·cases h
 | dct kvs =>
  obtain⟨kv,e,rd⟩:=R.h.ob n a _ ha ho;simp only [QeQ]at h;split at h
  ·rename_i c;simp only [Option.map_eq_some_iff]at h;obtain⟨t,ht,rfl⟩:=h;obtain⟨b,k,rfl,rk,hb⟩:=Qhs R ht rw';have l:=RG.length rd;obtain⟨R',E'⟩:=R.put (o:=.dct (Qfd kvs t u)) (ho:=.dT (ZS kv k v)) ha ⟨_,Qg,RG.put Qcn rk ru rd⟩
   exact⟨_,DPut.t e hb (Nat.lt_of_lt_of_le (by omega:kv.length<1000000) big),R',E'⟩
  ·cases h
 | _=>cases h
noncomputable def Qj7:R2:=fun x y H Q=>∃a v,x=.ref a/\DGet H a y (some v)/\Q v H
theorem QgE(hu:X.A.units+1<cLine):IxR X Qj7:=by
 intro value slice pins s σ H x y v u Q I rx ry h hs;obtain⟨a,z,rfl,g,q⟩:=h;obtain rfl:v=Value.ref a:=rx;have hT:=Ys I g;unfold subscriptTail;refine wpAny_bind ?_;rw [getitemInPython_of_ne hT.not_modules];refine wpAny_bind (wpAny_specialOf hT PySem.F.slot_dict_getitem.lookup ?_)
 have fin:wpAny (model X.prog X.w) X.A (subscripted slice false (.ref a) u) (fun r s₃=>wpAny (model X.prog X.w) X.A (letTemporaryGo value (.ref a) r >>= fun _=>pure r) (EP X pins σ Q) X.xe s₃) X.xe s:=by
  rw [hs];exact wpAny_operating (JI hu I g ry fun w' s3 I3 rw'=>wpAny_bind (wpAny_letTemporaryGo (wpAny_pure ⟨z,H,I3,rw',q⟩)))
 first
  | exact wpAny_pure (wpAny_bind fin)
  | exact wpAny_bind (wpAny_pure (wpAny_bind fin))
  | exact wpAny_bind fin
noncomputable def Qj8(neg:Bool):R2:=fun x y H Q=>∃a o,y=.ref a/\DGet H a x o/\Q (.bl (if neg then !o.isSome else o.isSome)) H
theorem QiA(hu:X.A.units+1<cLine):OpR X (compareOp .In) (Qj8 false):=by
 intro pins s σ H x y v u Q I rx ry h;obtain⟨a,o,rfl,g,q⟩:=h;obtain rfl:u=Value.ref a:=ry;exact Qnx hu I g rx fun s3 I3=>⟨.bl o.isSome,H,I3,rfl,q⟩
theorem Qb1(hu:X.A.units+1<cLine):OpR X (compareOp .NotIn) (Qj8 true):=by
 intro pins s σ H x y v u Q I rx ry h;obtain⟨a,o,rfl,g,q⟩:=h;obtain rfl:u=Value.ref a:=ry;exact Qg3 hu I g rx fun s3 I3=>⟨.bl (!o.isSome),H,I3,rfl,q⟩
theorem Qfl{u w:U}{v y:V}{c neg:Bool}{Q:VK}(R:Rep T A K α hs H)(h:inD T w u hs=some c)(ru:RU A α u v)(rw':RU A α w y)(q:Q (.bl (if neg then !c else c)) H):Qj8 neg v y H Q\/Qe8 T w u=some c:=by
 unfold inD at h;split at h
 ·rename_i n;split at h
  ·rename_i o e;simp only [Option.map_eq_some_iff]at h;obtain⟨r,h1,rfl⟩:=h;obtain⟨a,ha,rfl⟩:=rw'
   rcases QcE R e ha h1 ru with⟨rfl,g⟩ | ⟨u',v',rfl,g,_⟩
   ·exact .inl ⟨a,none,rfl,g,q⟩
   ·exact .inl ⟨a,some v',rfl,g,q⟩
  ·cases h
 ·exact .inr h
noncomputable def Qj6:V->V->V->Hp->(Hp->Prop)->Prop:=fun o i v H Q=>∃a H',o=.ref a/\DPut H a i v H'/\Q H'
theorem Qd2(hu:X.A.units+1<cLine):Qhl X Qj6:=by
 intro pins s σ H o i v ov iv u Q I ro ri rv h;obtain⟨a,H',rfl,g,q⟩:=h;obtain rfl:ov=Value.ref a:=ro;exact QcI hu I g ri rv fun s4 I4=>⟨H',I4,q⟩
theorem QhF{t t':Qjx}(h:Qhl X t)(h':Qhl X t'):Qhl X (fun o i v H Q=>t o i v H Q\/t' o i v H Q):=fun pins s σ H o i v ov iv u Q I ro ri rv q=>q.elim (h pins s σ H o i v ov iv u Q I ro ri rv) (h' pins s σ H o i v ov iv u Q I ro ri rv)
end
end Iv
namespace Iv
open PySem PySem.Spec PyProof.Rows L2
section
variable {X:Cx}{T:Tbl}{A:Adr}
theorem QkD{i j:Int}:decide (V.int i=V.int j)=decide (i=j):=by
 by_cases e:i=j
 ·subst e;simp
 ·have:¬V.int i=V.int j:=fun q=>e (V.int.inj q);rw [decide_eq_false this,decide_eq_false e]
theorem QkC{x y:List Nat}:decide (V.str ⟨x.toArray⟩=V.str ⟨y.toArray⟩)=decide (x=y):=by
 by_cases e:x=y
 ·subst e;simp
 ·have:¬V.str ⟨x.toArray⟩=V.str ⟨y.toArray⟩:=fun q=>e (by
   have q1:=V.str.inj q;have q2:=congrArg (fun s:Str=>s.cps.toList) q1
   simpa using q2)
  rw [decide_eq_false this,decide_eq_false e]
theorem QkE{x y:Bool}:decide (V.bl x=V.bl y)=decide (x=y):=by cases x<;>cases y<;>rfl
theorem Qfq{α:List Addr}{u w:U}{v y:V}{c:Bool}(h:eqS u w=some c)(ru:RU A α u v)(rw':RU A α w y):scal v y=true/\decide (v=y)=c:=by
 cases u with
 | non =>
  cases(show v=_ from ru)
  cases w with
  | non=>cases(show y=_ from rw');cases h;exact⟨rfl,rfl⟩
  | bl b=>cases(show y=_ from rw');cases h;exact⟨rfl,rfl⟩
  | int j n=>obtain⟨_,rfl,_⟩:=rw';cases h;exact⟨rfl,rfl⟩
  | str x=>cases(show y=_ from rw');cases h;exact⟨rfl,rfl⟩
  | _=>exact nomatch (show(none:Option Bool)=some _ from h)
 | bl b =>
  cases(show v=_ from ru)
  cases w with
  | non=>cases(show y=_ from rw');cases h;exact⟨rfl,rfl⟩
  | bl b=>cases(show y=_ from rw');cases h;exact⟨rfl,QkE⟩
  | str x=>cases(show y=_ from rw');cases h;exact⟨rfl,rfl⟩
  | _=>exact nomatch (show(none:Option Bool)=some _ from h)
 | str x =>
  cases(show v=_ from ru)
  cases w with
  | non=>cases(show y=_ from rw');cases h;exact⟨rfl,rfl⟩
  | bl b=>cases(show y=_ from rw');cases h;exact⟨rfl,rfl⟩
  | int j n=>obtain⟨_,rfl,_⟩:=rw';cases h;exact⟨rfl,rfl⟩
  | str z=>cases(show y=_ from rw');cases h;exact⟨rfl,QkC⟩
  | _=>exact nomatch (show(none:Option Bool)=some _ from h)
 | int i m =>
  obtain⟨i',rfl,a⟩:=ru
  cases w with
  | non=>cases(show y=_ from rw');cases m<;>cases h<;>exact⟨rfl,rfl⟩
  | str x=>cases(show y=_ from rw');cases m<;>cases h<;>exact⟨rfl,rfl⟩
  | int j n =>
   obtain⟨j',rfl,b⟩:=rw'
   cases m with
   | succ m=>exact nomatch (show(none:Option Bool)=some _ from h)
   | zero =>
    cases n with
    | succ n=>exact nomatch (show(none:Option Bool)=some _ from h)
    | zero=>cases a.exact;cases b.exact;cases h;exact⟨rfl,QkD⟩
  | _=>cases m<;>exact nomatch (show(none:Option Bool)=some _ from h)
 | _=>cases w<;>exact nomatch (show(none:Option Bool)=some _ from h)
theorem Qan{α:List Addr}{x:U}{v:V}(h:YD x=true)(r:RU A α x v):YC v=true:=by
 cases x with
 | non=>cases(show v=_ from r);rfl
 | int i m=>obtain⟨_,rfl,_⟩:=r;rfl
 | str z=>cases(show v=_ from r);rfl
 | _=>cases h
theorem Qi4{α:List Addr}{x y:U}{v w:V}(hx:YD x=true)(hy:YD y=true)(rx:RU A α x v)(ry:RU A α y w):eqV w v=eqF y x:=by
 cases y with
 | non =>
  cases(show w=_ from ry)
  cases x with
  | non=>cases(show v=_ from rx);rfl
  | int i m=>obtain⟨_,rfl,_⟩:=rx;rfl
  | str z=>cases(show v=_ from rx);rfl
  | _=>cases hx
 | str z =>
  cases(show w=_ from ry)
  cases x with
  | non=>cases(show v=_ from rx);rfl
  | int i m=>obtain⟨_,rfl,_⟩:=rx;rfl
  | str z' =>
   cases(show v=_ from rx);show(({ cps:=z.toArray }:Str)=={ cps:=z'.toArray })=decide (z=z');by_cases e:z=z'
   ·subst e;simp
   ·rw [decide_eq_false e,beq_eq_false_iff_ne];intro q;have q2:=congrArg (fun s:Str=>s.cps.toList) q
    exact e (by simpa using q2)
  | _=>cases hx
 | int j n =>
  obtain⟨j',rfl,b⟩:=ry
  cases n with
  | succ n=>cases hy
  | zero =>
   cases b.exact
   cases x with
   | non=>cases(show v=_ from rx);rfl
   | str z=>cases(show v=_ from rx);rfl
   | int i m =>
    obtain⟨i',rfl,a⟩:=rx
    cases m with
    | succ m=>cases hx
    | zero =>
     cases a.exact;show(j==i)=decide (j=i);by_cases e:j=i<;>simp [e]
   | _=>cases hx
 | _=>cases hy
theorem Qco{α:List Addr}{x:U}{v:V}(hx:YD x=true)(rx:RU A α x v):∀{ys:List U} {ws:List V},RUs A α ys ws->ys.all YD=true->ws.all YC=true/\inV v ws=ys.any fun y=>eqF y x
 | _,_,.nil,_=>⟨rfl,rfl⟩
 | _,_,.cons (a:=y) (b:=w) r t,h=>by
  rw [List.all_cons,Bool.and_eq_true]at h;obtain⟨h1,h2⟩:=Qco hx rx t h.2
  refine⟨by rw [List.all_cons,h1,Qan h.1 r];rfl,?_⟩
  show(eqV w v||inV v _)=(eqF y x||_);rw [h2,Qi4 hx h.1 rx r]
theorem QfF{vs:List (Key×Value)}{y:U}{yv:V}{α:List Addr}(ky:Y5 y=true)(ry:RU A α y yv):∀{kvs:List (U×U)},Paired (fun(p:U×U) (q:Key×Value)=>QgD p.1 q.1/\∃v,RU A [] p.2 v/\RelV v q.2) kvs vs ->
  ∃key,yv=kV key/\(valueAt vs key).isSome=(ZC kvs y).isSome:=by
 obtain⟨key,hy,hk⟩:∃key,yv=kV key/\QgD y key:=by
  cases y with
  | int i m =>
   cases m with
   | zero=>obtain⟨j,rfl,c⟩:=ry;cases c.exact;exact⟨.inl i,rfl,rfl⟩
   | succ m=>cases ky
  | str z=>cases(show yv=_ from ry);exact⟨.inr ⟨z.toArray⟩,rfl,rfl⟩
  | _=>cases ky
 have inj:∀{p:U} {q:Key},QgD p q->(p=y↔q=key):=by
  intro p q hp
  cases y with
  | int i m =>
   cases m with
   | succ m=>cases ky
   | zero =>
    cases(show key=_ from hk)
    cases p with
    | int j n =>
     cases n with
     | succ n=>exact(show False from hp).elim
     | zero=>cases(show q=_ from hp);exact⟨fun e=>(by cases e;rfl),fun e=>(by cases e;rfl)⟩
    | str z=>cases(show q=_ from hp);exact⟨fun e=>(by cases e),fun e=>(by cases e)⟩
    | _=>exact(show False from hp).elim
  | str z =>
   cases(show key=_ from hk)
   cases p with
   | int j n =>
    cases n with
    | succ n=>exact(show False from hp).elim
    | zero=>cases(show q=_ from hp);exact⟨fun e=>(by cases e),fun e=>(by cases e)⟩
   | str z' =>
    cases(show q=_ from hp)
    refine⟨fun e=>(by cases e;rfl),fun e=>?_⟩
    have e1:=Sum.inr.inj e;have e2:=congrArg (fun s:Str=>s.cps.toList) e1
    have e3:z'=z:=by simpa using e2
    rw [e3]
   | _=>exact(show False from hp).elim
  | _=>cases ky
 intro kvs r;refine⟨key,hy,?_⟩
 induction r with
 | nil=>rfl
 | @cons p q ps qs hpq t ih =>
  obtain⟨pk,pv⟩:=p;obtain⟨qk,qv⟩:=q;obtain⟨h1,v,h2,h3⟩:=hpq;simp only [ZC];by_cases e:pk=y
  ·have e2:qk=key:=(inj h1).mp e;rw [if_pos e];simp [valueAt,e2]
  ·have e2:¬qk=key:=fun z=>e ((inj h1).mpr z);rw [if_neg e,<-ih];simp only [valueAt,List.find?_cons];rw [decide_eq_false e2]
noncomputable def Qj4(P:Program)(w:World)(K:PySem.W.Frag)(neg:Bool):R2:=fun x y H Q=>∃a vs key,y=.ref a/\(a==sysModules)=false/\x=kV key/\(∀h:Heap,K.In h->h.DictOf (Qs P w) a vs)/\Q (.bl (if neg then !(valueAt vs key).isSome else(valueAt vs key).isSome)) H
theorem Qb2:OpR X (compareOp .In) (Qj4 X.prog X.w X.K false):=by
 intro pins s σ H x y v u Q I rx ry h;obtain⟨a,vs,key,rfl,ns,rfl,hd,q⟩:=h;cases ry;exact wpAny_in_of (Y7 rx) ns (hd s.heap I.kIn).mapOf ⟨.bl _,H,I.tok _,rfl,q⟩
theorem Jt:OpR X (compareOp .NotIn) (Qj4 X.prog X.w X.K true):=by
 intro pins s σ H x y v u Q I rx ry h;obtain⟨a,vs,key,rfl,ns,rfl,hd,q⟩:=h;cases ry;exact wpAny_notIn_of (Y7 rx) ns (hd s.heap I.kIn).mapOf ⟨.bl _,H,I.tok _,rfl,q⟩
theorem Qba{f:Value->Value->Sem Value}{r r':R2}(h:OpR X f r)(h':OpR X f r'):OpR X f (fun x y H Q=>r x y H Q\/r' x y H Q):=fun pins s σ H x y v u Q I rx ry q=>q.elim (h pins s σ H x y v u Q I rx ry) (h' pins s σ H x y v u Q I rx ry)
theorem QbB{neg:Bool}{α:List Addr}{u w:U}{v y:V}{H:Hp}{Q:VK}{c:Bool}(tab:Jh X.prog X.w T A X.K)(h:Qe8 T w u=some c)(ru:RU A α u v)(rw':RU A α w y)(q:Q (.bl (if neg then !c else c)) H):Qj4 X.prog X.w X.K neg v y H Q\/∃i j,v=.str i/\y=.str j/\Q (.bl (if neg then !(!(Builtin.Str.occurrences j i 0 j.length 1).isEmpty)else !(Builtin.Str.occurrences j i 0 j.length 1).isEmpty)) H:=by
 unfold Qe8 at h;split at h
 case h_3=>cases h
 case h_2 =>
  split at h
  ·rename_i y' x';cases h;cases(show v=_ from ru);cases(show y=_ from rw');exact .inr ⟨_,_,rfl,rfl,q⟩
  ·cases h
 rename_i k;refine .inl ?_;split at h
 case h_2=>cases h
 rename_i kvs ec;split at h
 case isFalse=>cases h
 rename_i ky;cases h;obtain⟨vs,ns,hd,hp⟩:=tab k kvs ec;obtain⟨key,ev,e⟩:=QfF ky ru hp;cases(show y=_ from rw')
 exact⟨_,vs,key,rfl,ns,ev,hd,by rw [e];exact q⟩
noncomputable def Ql8(X:Cx)(T:Tbl)(A:Adr)(o:CmpOp):Prop:=∃r,OpR X (compareOp o) r/\∀{α:List Addr} {u w:U} {hs:Hs} {v y:V} {H:Hp} {Q:VK} {c:Bool},Zv T o u w hs=some c->RU A α u v->RU A α w y->Rep T A X.K α hs H->Q (.bl c) H->r v y H Q
theorem Qa2{o:CmpOp}{p:Int->Int->Bool}(ho:OpR X (compareOp o) (rI0 fun i j=>.bl (p i j)))(hc:∀u w hs,Zv T o u w hs=match u,w with | .int i 0,.int j 0=>some (p i j) | _,_=>none):Ql8 X T A o:=by
 refine⟨_,ho,?_⟩;intro α u w hs v y H Q c h ru rw' R q;rw [hc]at h;split at h
 ·cases h;obtain⟨i',rfl,a⟩:=ru;obtain⟨j',rfl,b⟩:=rw';cases a.exact;cases b.exact;exact⟨_,_,rfl,rfl,q⟩
 ·cases h
theorem Qny(tx:Txt T A X.K X.mg)(tab:Jh X.prog X.w T A X.K)(hu:X.A.units+64<cLine)(o:CmpOp):Ql8 X T A o:=by
 cases o with
 | Eq =>
  refine⟨_,OpR.or Qkm (OpR.or (QiC tx hu) (OpR.or (QiB tx hu) (QiD tx hu))),?_⟩;intro α u w hs v y H Q c h ru rw' R q;simp only [Zv,eqA]at h;split at h
  ·rename_i b e;cases h;obtain⟨h1,h2⟩:=Qfq e ru rw'
   exact .inl ⟨h1,by rw [h2];exact q⟩
  ·split at h
   ·rename_i c;cases h;exact .inr (.inl ⟨α,u,w,hs,ru,rw',R,c,q⟩)
   ·split at h
    ·rename_i c;cases h;exact .inr (.inr (.inl ⟨α,u,w,hs,ru,rw',R,c,q⟩))
    ·split at h
     ·rename_i c;cases h;rw [Bool.and_eq_true]at c;exact .inr (.inr (.inr ⟨α,u,w,hs,ru,rw',R,c.1,c.2,q⟩))
     ·cases h
 | NotEq =>
  refine⟨_,OpR.or Qkh (OpR.or (Qiw tx hu) (OpR.or (Qiv tx hu) (Qix tx hu))),?_⟩;intro α u w hs v y H Q c h ru rw' R q;simp only [Zv,Option.map_eq_some_iff,eqA]at h;obtain⟨d,h,e⟩:=h;split at h
  ·rename_i b eb;cases h;obtain⟨h1,h2⟩:=Qfq eb ru rw'
   exact .inl ⟨h1,by rw [h2,e];exact q⟩
  ·split at h
   ·rename_i cc;cases h;refine .inr (.inl ⟨α,u,w,hs,ru,rw',R,cc,?_⟩);rw [show(true:Bool)=c from e];exact q
   ·split at h
    ·rename_i cc;cases h;refine .inr (.inr (.inl ⟨α,u,w,hs,ru,rw',R,cc,?_⟩));rw [show(false:Bool)=c from e];exact q
    ·split at h
     ·rename_i cc;cases h;rw [Bool.and_eq_true]at cc;refine .inr (.inr (.inr ⟨α,u,w,hs,ru,rw',R,cc.1,cc.2,?_⟩));rw [if_pos rfl,e];exact q
     ·cases h
 | Lt=>exact Qa2 Qki fun _ _ _=>rfl
 | LtE=>exact Qa2 Qkj fun _ _ _=>rfl
 | Gt=>exact Qa2 Qkk fun _ _ _=>rfl
 | GtE=>exact Qa2 Qkl fun _ _ _=>rfl
 | Is =>
  refine⟨_,Qiz,?_⟩;intro α u w hs v y H Q c h ru rw' R q;simp only [Zv]at h;split at h
  ·cases h;refine⟨rw',?_⟩
   have e:decide (v=.non)=decide (u=.non):=by
    cases u with
    | non=>cases(show v=_ from ru);rfl
    | bl b=>cases(show v=_ from ru);rfl
    | int i m=>obtain⟨_,rfl,_⟩:=ru;rfl
    | str x=>cases(show v=_ from ru);rfl
    | ref n=>obtain⟨_,_,rfl⟩:=ru;rfl
    | con k=>cases(show v=_ from ru);rfl
    | scr=>cases(show v=_ from ru);rfl
   rw [e];exact q
  ·cases h
 | IsNot =>
  refine⟨_,Qgj,?_⟩;intro α u w hs v y H Q c h ru rw' R q;simp only [Zv]at h;split at h
  ·cases h;refine⟨rw',?_⟩
   have e:decide (v=.non)=decide (u=.non):=by
    cases u with
    | non=>cases(show v=_ from ru);rfl
    | bl b=>cases(show v=_ from ru);rfl
    | int i m=>obtain⟨_,rfl,_⟩:=ru;rfl
    | str x=>cases(show v=_ from ru);rfl
    | ref n=>obtain⟨_,_,rfl⟩:=ru;rfl
    | con k=>cases(show v=_ from ru);rfl
    | scr=>cases(show v=_ from ru);rfl
   rw [e];exact q
  ·cases h
 | In =>
  refine⟨_,Qba Qb4 (Qba (QiA (by omega)) (Qba Qb2 Qb3)),?_⟩
  intro α u w hs v y H Q c h ru rw' R q;simp only [Zv]at h;split at h
  ·rename_i xs e;obtain⟨a,vs,rfl,rr,sq⟩:=ZR (K':=X.K) tx R e rw';unfold inU at h;split at h
   ·rename_i f;cases h;rw [Bool.and_eq_true]at f;obtain⟨h1,h2⟩:=Qco f.1 ru rr f.2
    exact .inl ⟨a,vs,rfl,sq,Qan f.1 ru,h1,by rw [h2];exact q⟩
   ·cases h
  ·exact .inr ((Qfl (neg:=false) R h ru rw' q).imp id fun h=>QbB (neg:=false) tab h ru rw' q)
 | NotIn =>
  refine⟨_,Qba Ju (Qba (Qb1 (by omega)) (Qba Jt Js)),?_⟩
  intro α u w hs v y H Q c h ru rw' R q;simp only [Zv]at h;split at h
  ·rename_i xs e;obtain⟨a,vs,rfl,rr,sq⟩:=ZR (K':=X.K) tx R e rw';simp only [Option.map_eq_some_iff]at h;obtain⟨d,h,e2⟩:=h;unfold inU at h;split at h
   ·rename_i f;cases h;rw [Bool.and_eq_true]at f;obtain⟨h1,h2⟩:=Qco f.1 ru rr f.2
    exact .inl ⟨a,vs,rfl,sq,Qan f.1 ru,h1,by rw [h2];simp only [if_true];rw [e2];exact q⟩
   ·cases h
  ·simp only [Option.map_eq_some_iff]at h;obtain⟨d,h,e2⟩:=h
   have q':Q (.bl (if true=true then !d else d)) H:=by simp only [if_true];rw [e2];exact q
   exact .inr ((Qfl (neg:=true) R h ru rw' q').imp id fun h=>QbB (neg:=true) tab h ru rw' q')
theorem Qjh{α:List Addr}{us:List U}{vs:List V}{i:Int}{u:U}(r:RUs A α us vs)(h:atU us i=some u):∃v,atI vs i=some v/\RU A α u v:=by
 unfold atU at h;split at h
 ·rename_i j e;obtain⟨v,h1,h2⟩:=r.get h;refine⟨v,?_,h2⟩
  have e':ixN vs.length i=some j:=by rw [<-r.length];exact e
  unfold atI;rw [e'];exact h1
 ·cases h
theorem Qls{xs:List Nat}{i:Int}{c:Nat}(h:atU xs i=some c):atI xs i=some c:=by
 unfold atU at h;split at h
 ·rename_i j e;have e':ixN xs.length i=some j:=e;unfold atI;rw [e'];exact h
 ·cases h
theorem QfK{α:List Addr}{u w x:U}{hs:Hs}{v y:V}{H:Hp}{Q:VK}(tx:Txt T A X.K X.mg)(h:Z4 T u w hs=some x)(ru:RU A α u v)(rw':RU A α w y)(R:Rep T A X.K α hs H)(k:∀z,RU A α x z->Q z H):rIx X.K v y H Q\/Qj7 v y H Q:=by
 have seq:∀{xs:List U} {i:Int},ZB T u hs=some xs->w=.int i 0->atU xs i=some x->rIx X.K v y H Q\/Qj7 v y H Q:=fun {xs i} e1 e2 e3=>by
  subst e2;obtain⟨j,rfl,c⟩:=rw';cases c.exact;obtain⟨a,vs,rfl,rr,sq⟩:=ZR (K':=X.K) tx R e1 ru;obtain⟨z,h1,h2⟩:=Qjh rr e3
  rcases sq with sq | sq
  ·exact .inl (.inl ⟨a,vs,i,z,rfl,rfl,sq,h1,k z h2⟩)
  ·exact .inl (.inr (.inl ⟨a,vs,i,z,rfl,rfl,sq,h1,k z h2⟩))
 cases u with
 | str z =>
  cases w with
  | int i m =>
   cases m with
   | succ m=>simp [Z4,ZB]at h
   | zero =>
    simp only [Z4]at h;split at h
    ·rename_i l;simp only [Option.map_eq_some_iff]at h;obtain⟨c,e,rfl⟩:=h;cases(show v=_ from ru);obtain⟨j,rfl,q⟩:=rw';cases q.exact
     exact .inl (.inr (.inr ⟨_,i,c,rfl,rfl,by rw [Zp];exact Nat.le_trans l big,by simpa using Qls e,k _ (by show _=_;rfl)⟩))
    ·cases h
  | _=>simp [Z4,ZB]at h
 | ref n =>
  simp only [Z4]at h;split at h
  ·rename_i xs i e
   exact seq (by simp only [ZB,e]) rfl h
  ·rename_i xs i e
   exact seq (by simp only [ZB,e]) rfl h
  ·rename_i o e _ _;obtain⟨a,ha,rfl⟩:=ru;simp only [Option.bind_eq_some_iff,id_eq]at h;obtain⟨r,h1,h2⟩:=h
   rcases QcE R e ha h1 rw' with⟨h3,_⟩ | ⟨u',v',h3,g,rv⟩
   ·rw [h3]at h2;cases h2
   ·rw [h3]at h2;cases h2;exact .inr ⟨a,v',rfl,g,k v' rv⟩
  ·cases h
 | con n =>
  cases w with
  | int i m =>
   cases m with
   | succ m=>simp [Z4]at h
   | zero =>
    simp only [Z4]at h;split at h
    ·rename_i xs e;exact seq e rfl h
    ·cases h
  | _=>simp [Z4]at h
 | scr =>
  cases w with
  | int i m =>
   cases m with
   | succ m=>simp [Z4]at h
   | zero =>
    simp only [Z4]at h;split at h
    ·rename_i xs e;exact seq e rfl h
    ·cases h
  | _=>simp [Z4]at h
 | _ =>
  cases w with
  | int i m=>cases m<;>simp [Z4,ZB]at h
  | _=>simp [Z4]at h
theorem RUs.drop{α:List Addr}:∀(n:Nat) {us:List U} {vs:List V},RUs A α us vs->RUs A α (us.drop n) (vs.drop n)
 | 0,_,_,r=>r
 | _+1,_,_,.nil=>.nil
 | n+1,_,_,.cons _ t=>RUs.drop n t
theorem RUs.take{α:List Addr}:∀(n:Nat) {us:List U} {vs:List V},RUs A α us vs->RUs A α (us.take n) (vs.take n)
 | 0,_,_,_=>.nil
 | _+1,_,_,.nil=>.nil
 | n+1,_,_,.cons r t=>.cons r (RUs.take n t)
theorem ZO(n d:Nat)(o:Option Int):Qbo n d o=HT.sIx n d o:=by cases o<;>rfl
theorem RUs.cut{α:List Addr}{us:List U}{vs:List V}(r:RUs A α us vs)(lo hi:Option Int):RUs A α (Z6 us lo hi) (Qfu vs lo hi):=by
 unfold Z6 Qfu;rw [ZO,ZO,r.length];exact RUs.take _ (RUs.drop _ r)
theorem QeV(x:List Nat)(lo hi:Option Int):(Txt.slice ⟨x.toArray⟩ lo hi)=⟨(Z6 x lo hi).toArray⟩:=by
 have h:=QbG ⟨x.toArray⟩ lo hi
 have e:(⟨x.toArray⟩:Str).length=x.length:=by simp [Str.length]
 rw [e]at h;apply Str.ext';apply Array.toList_inj.mp;rw [h];simp only [Z6,ZO]
theorem QhE{α:List Addr}{u x:U}{hs hs':Hs}{v:V}{H:Hp}{Q:VK}{lo hi:Option Int}(h:slU T u lo hi hs=some (x,hs'))(ru:RU A α u v)(R:Rep T A X.K α hs H)(k:∀α' z H',Ext α α' H H'->Rep T A X.K α' hs' H'->RU A α' x z->Q z H'):QlM X.K v lo hi H Q\/(QlK X.K v lo hi H Q\/QlL v lo hi H Q):=by
 cases u with
 | scr =>
  simp only [slU]at h;cases h;obtain⟨vs,rr,q⟩:=R.s.sq (α:=α);refine .inl ⟨_,vs,ru,q,fun p hp=>?_⟩;obtain⟨R',E'⟩:=R.new (o:=.lst (Z6 T.scr lo hi)) hp ⟨_,Qg,RUs.mono Qu (rr.cut lo hi)⟩
  exact k _ _ _ E' R' ⟨p,by rw [<-R.h.len];exact Qz,rfl⟩
 | ref n =>
  simp only [slU]at h;split at h
  ·rename_i xs e;cases h;obtain⟨a,ha,rfl⟩:=ru;obtain⟨vs,q,rr⟩:=R.h.ob n a _ ha e;refine .inl ⟨_,vs,rfl,SqL.of q,fun p hp=>?_⟩;obtain⟨R',E'⟩:=R.new (o:=.lst (Z6 xs lo hi)) hp ⟨_,Qg,RUs.mono Qu (rr.cut lo hi)⟩
   exact k _ _ _ E' R' ⟨p,by rw [<-R.h.len];exact Qz,rfl⟩
  ·rename_i xs e;split at h
   ·cases h
   rename_i hw;cases h;obtain⟨a,ha,rfl⟩:=ru;obtain⟨vs,q,rr⟩:=R.h.ob n a _ ha e;refine .inr (.inl ⟨_,vs,rfl,SqT.of q,?_,fun p hp=>?_⟩)
   ·rw [ZO,ZO,rr.length]at hw;exact hw
   obtain⟨R',E'⟩:=R.new (o:=.tup (Z6 xs lo hi)) hp ⟨_,Qg,RUs.mono Qu (rr.cut lo hi)⟩
   exact k _ _ _ E' R' ⟨p,by rw [<-R.h.len];exact Qz,rfl⟩
  ·cases h
 | str y =>
  simp only [slU]at h;split at h
  ·rename_i l;cases h;cases(show v=_ from ru)
   refine .inr (.inr ⟨_,rfl,by rw [Zp];exact Nat.le_trans l big,?_⟩)
   rw [QeV];exact k α _ H Ext.refl R rfl
  ·cases h
 | _=>simp [slU]at h
end
end Iv
namespace Iv
open PySem PySem.Spec PyProof.Rows L2
section
variable {X:Cx}{T:Tbl}{A:Adr}{C:Ctx}
theorem Zw{e:Expr}{t:TE}(h:∀σ H Q,¬t σ H Q):PE X e t:=fun _ _ σ H Q _ q=>(h σ H Q q).elim
theorem Qkq(K:PySem.W.Frag){k t:Ty}{b:Bool}(h:Qjs k t=some b)(A:Adr):PySem.W.kitOne K (tyW A k) (tyW A t)=some b:=by
 cases k<;>cases t<;>simp only [Qjs]at h<;>first | (cases h;done) | (cases h;rfl) | (cases h;kernel_rfl)
theorem QgB{α:List Addr}{u:U}{hs:Hs}{v:V}{H:Hp}{k:Ty}(tx:Txt T A X.K X.mg)(h:Y4 u hs=some k)(r:RU A α u v)(R:Rep T A X.K α hs H):TyE X.K H v (tyW A k):=by
 cases u with
 | non=>cases h;cases(show v=_ from r);exact .inl .non
 | bl b=>cases h;cases(show v=_ from r);exact .inl (.bl b)
 | int i m=>cases h;obtain⟨j,rfl,_⟩:=r;exact .inl (.int j)
 | str x=>cases h;cases(show v=_ from r);exact .inl (.str _)
 | ref n =>
  obtain⟨a,ha,rfl⟩:=r;simp only [Y4]at h;split at h
  ·rename_i xs e;cases h;obtain⟨vs,q,_⟩:=R.h.ob n a _ ha e;exact .inl (.lst q)
  ·rename_i xs e;cases h;obtain⟨vs,q,_⟩:=R.h.ob n a _ ha e;exact .inl (.tup q)
  ·rename_i kvs e;cases h;obtain⟨kv,q,_⟩:=R.h.ob n a _ ha e;exact .inl (.dK q)
  ·rename_i kvs e;cases h;obtain⟨kv,q,_⟩:=R.h.ob n a _ ha e;exact .inl (.dT q)
  ·rename_i c fs e;cases h;obtain⟨dx,fv,q,_,l⟩:=R.h.ob n a _ ha e;exact .inl ((tx.cl c _ (List.getElem?_eq_getElem l)).ty H a dx fv q)
  ·rename_i c e;cases h;obtain⟨q,l⟩:=R.h.ob n a _ ha e;exact .inr ⟨a,A.c c,rfl,rfl,q,(tx.er c l).1⟩
  ·cases h
 | _=>simp [Y4]at h
theorem QiT{α:List Addr}{u:U}{hs:Hs}{v:V}{H:Hp}{t:Ty}{b:Bool}(tx:Txt T A X.K X.mg)(h:JC T t u hs=some b)(r:RU A α u v)(R:Rep T A X.K α hs H):∃tv,TyE X.K H v tv/\PySem.W.kitOne X.K tv (tyW A t)=some b:=by
 unfold JC at h;split at h
 ·cases h
 ·rename_i k e;refine⟨tyW A k,QgB tx e r R,?_⟩;split at h
  ·rename_i b' e';cases h;exact Qkq X.K e' A
  ·exact tx.isi k t b h
theorem Qr{α:List Addr}{u:U}{us:List U}{vs:List V}(r:RUs A α (u::us) vs):∃v ws,vs=v::ws/\RU A α u v/\RUs A α us ws:=by cases r with | cons a b=>exact⟨_,_,rfl,a,b⟩
theorem QV{α:List Addr}{vs:List V}(r:RUs A α [] vs):vs=[]:=by cases r;rfl
theorem QeT(n:Nat):((toString (n:Int):String):Str)=⟨(Ql4 n).toArray⟩:=by
 apply Str.ext';apply Array.toList_inj.mp;exact PySem.W.KIN.signs_num n
theorem QcR : CallR X (.type "int") (fun xs H Q => ((∃ i, xs = [.int i] /\ Q (.int i) H) \/ ∃ k, xs = [.bl k] /\ Q (.int (if k then 1 else 0)) H) \/ ∃ x, xs = [.str x] /\ NumText.AllDigits x.cps.toList /\ x.cps.toList ≠ [] /\ x.length <= 640 /\ Q (.int ((NumText.digitsVal x.cps.toList : Nat) : Int)) H) := by
 intro pins s σ H xs us Q I r h
 rcases h with h | h
 ·exact QcS pins s σ H xs us Q I r h
 ·exact Jg pins s σ H xs us Q I r h
noncomputable def BiS(X:Cx)(T:Tbl)(A:Adr)(b:Bi)(f:Value):Prop:=∃r,CallR X f r/\∀{α:List Addr} {us:List U} {u':U} {hs hs':Hs} {vs:List V} {H:Hp} {Q:VK},biU T b us hs=some (u',hs')->RUs A α us vs->Rep T A X.K α hs H ->
 (∀α' v' H',Ext α α' H H'->Rep T A X.K α' hs' H'->RU A α' u' v'->Q v' H')->r vs H Q
theorem Qha(tx:Txt T A X.K X.mg):BiS X T A .len (.builtin "len"):=by
 refine⟨_,CallR.or JP JO,?_⟩;intro α us u' hs hs' vs H Q h r R k
 have seq:∀{u:U} {xs:List U},us=[u]->ZB T u hs=some xs->(u',hs')=(U.int xs.length 0,hs)->(∃p ys,vs=[V.ref p]/\(SqL X.K H p ys\/SqT X.K H p ys)/\Q (.int ys.length) H):=fun {u xs} e1 e2 e3=>by
  subst e1;cases e3;obtain⟨v,ws,rfl,ru,rn⟩:=Qr r;cases QV rn;obtain⟨a,ys,rfl,rr,sq⟩:=ZR (K':=X.K) tx R e2 ru
  exact⟨a,ys,rfl,sq,k α _ H Ext.refl R ⟨_,rfl,by rw [rr.length];exact Cg.refl _ _⟩⟩
 cases us with
 | nil=>simp [biU]at h
 | cons u t =>
  cases t with
  | cons _ _=>cases u<;>simp [biU]at h
  | nil =>
   cases u with
   | str x =>
    simp only [biU]at h;split at h
    ·rename_i l;cases h;obtain⟨v,ws,rfl,ru,rn⟩:=Qr r;cases QV rn;cases(show v=_ from ru)
     refine .inr ⟨_,rfl,by rw [Zp];exact Nat.le_trans l big,k α _ H Ext.refl R ⟨_,rfl,?_⟩⟩
     rw [Zp];exact Cg.refl _ _
    ·cases h
   | ref n=>simp only [biU,Option.map_eq_some_iff]at h;obtain⟨xs,e,q⟩:=h;exact .inl (seq rfl e q.symm)
   | con n=>simp only [biU,Option.map_eq_some_iff]at h;obtain⟨xs,e,q⟩:=h;exact .inl (seq rfl e q.symm)
   | scr=>simp only [biU,Option.map_eq_some_iff]at h;obtain⟨xs,e,q⟩:=h;exact .inl (seq rfl e q.symm)
   | _=>simp [biU,ZB]at h
theorem Qhb:BiS X T A .int (.type "int"):=by
 refine⟨_,QcR,?_⟩;intro α us u' hs hs' vs H Q h r R k
 cases us with
 | nil=>simp [biU]at h
 | cons u t =>
  cases t with
  | cons _ _=>cases u<;>simp [biU]at h
  | nil =>
   obtain⟨v,ws,rfl,ru,rn⟩:=Qr r;cases QV rn
   cases u with
   | int i m =>
    cases h;obtain⟨j,rfl,c⟩:=ru;exact .inl (.inl ⟨j,rfl,k α _ H Ext.refl R ⟨_,rfl,c⟩⟩)
   | bl b =>
    cases h;cases(show v=_ from ru);refine .inl (.inr ⟨b,rfl,k α _ H Ext.refl R ⟨_,rfl,?_⟩⟩);cases b<;>exact Cg.refl _ _
   | str x =>
    simp only [biU]at h;split at h
    case isFalse=>cases h
    rename_i c;cases h;cases(show v=_ from ru);unfold Ql5 at c;simp only [Bool.and_eq_true,List.all_eq_true,decide_eq_true_eq,Bool.not_eq_true',List.isEmpty_eq_false_iff]at c;obtain⟨⟨c1,c2⟩,c3⟩:=c
    exact .inr ⟨_,rfl,c1,c2,by rw [Zp];exact c3,k α _ H Ext.refl R ⟨_,rfl,Cg.refl _ _⟩⟩
   | _=>simp [biU]at h
theorem Qg9:BiS X T A .str (.type "str"):=by
 refine⟨_,JM,?_⟩;intro α us u' hs hs' vs H Q h r R k
 cases us with
 | nil=>simp [biU]at h
 | cons u t =>
  cases t with
  | cons _ _=>cases u<;>simp [biU]at h
  | nil =>
   obtain⟨v,ws,rfl,ru,rn⟩:=Qr r;cases QV rn
   cases u with
   | int i m =>
    cases m with
    | succ m=>simp [biU]at h
    | zero =>
     simp only [biU]at h;split at h
     ·rename_i c;cases h;obtain⟨j,rfl,q⟩:=ru;cases q.exact;simp only [Bool.and_eq_true,decide_eq_true_eq]at c;obtain⟨n,rfl⟩:=Int.eq_ofNat_of_zero_le c.1;exact⟨(n:Int),rfl,c.2,k α _ H Ext.refl R (congrArg V.str (QeT n))⟩
     ·cases h
   | _=>simp [biU]at h
theorem QcW:BiS X T A .tuple (.type "tuple"):=by
 refine⟨_,Je,?_⟩;intro α us u' hs hs' vs H Q h r R k
 cases us with
 | nil=>simp [biU]at h
 | cons u t =>
  cases t with
  | cons _ _=>cases u<;>simp [biU]at h
  | nil =>
   obtain⟨v,ws,rfl,ru,rn⟩:=Qr r;cases QV rn
   cases u with
   | ref n =>
    obtain⟨a,ha,rfl⟩:=ru;simp only [biU]at h;split at h
    ·rename_i xs e;cases h;obtain⟨ys,q,rr⟩:=R.h.ob n a _ ha e;refine⟨a,ys,rfl,.inl ⟨SqL.of q,fun p hp=>?_⟩⟩;obtain⟨R',E'⟩:=R.new (o:=.tup xs) hp ⟨_,Qg,RUs.mono Qu rr⟩
     exact k _ _ _ E' R' ⟨p,by rw [<-R.h.len];exact Qz,rfl⟩
    ·rename_i xs e;cases h;obtain⟨ys,q,rr⟩:=R.h.ob n a _ ha e;exact⟨a,ys,rfl,.inr ⟨SqT.of q,k α _ H Ext.refl R ⟨a,ha,rfl⟩⟩⟩
    ·cases h
   | _=>simp [biU]at h
theorem QeY(tx:Txt T A X.K X.mg):BiS X T A .list (.type "list"):=by
 refine⟨_,JN,?_⟩;intro α us u' hs hs' vs H Q h r R k
 cases us with
 | nil=>simp [biU]at h
 | cons u t =>
  cases t with
  | cons _ _=>cases u<;>simp [biU]at h
  | nil =>
   obtain⟨v,ws,rfl,ru,rn⟩:=Qr r;cases QV rn;simp only [biU,Option.map_eq_some_iff]at h;obtain⟨xs,e,q⟩:=h;cases q;obtain⟨a,ys,rfl,rr,sq⟩:=ZR (K':=X.K) tx R e ru;refine⟨a,ys,rfl,sq,fun p hp=>?_⟩;obtain⟨R',E'⟩:=R.new (o:=.lst xs) hp ⟨_,Qg,RUs.mono Qu rr⟩
   exact k _ _ _ E' R' ⟨p,by rw [<-R.h.len];exact Qz,rfl⟩
noncomputable def BmS(X:Cx)(T:Tbl)(A:Adr)(b:Bm)(id:String):Prop:=∃r,MtR X id r/\∀{α:List Addr} {o u':U} {us:List U} {hs hs':Hs} {x:V} {vs:List V} {H:Hp} {Q:VK},bmU T b o us hs=some (u',hs')->RU A α o x->RUs A α us vs->Rep T A X.K α hs H ->
 (∀α' v' H',Ext α α' H H'->Rep T A X.K α' hs' H'->RU A α' u' v'->Q v' H')->r x vs H Q
theorem Qg7{b:Bm}{o u':U}{us:List U}{hs hs':Hs}(h:bmU T b o us hs=some (u',hs'))(hb:∀x,bmS T b x us hs=none)(hd:∀n kvs,bmD b n kvs us hs=none):∃n xs,o=.ref n/\hs[n]?=some (.lst xs):=by
 cases o with
 | ref n =>
  simp only [bmU]at h;split at h
  ·rename_i xs e;exact⟨n,xs,rfl,e⟩
  ·rw [hd]at h;cases h
  ·cases h
 | str x =>
  simp only [bmU]at h;rw [hb]at h;cases h
 | _=>simp [bmU]at h
theorem Qbq:BmS X T A .append "list.append":=by
 refine⟨_,Jw,?_⟩;intro α o u' us hs hs' x vs H Q h ro r R k;obtain⟨n,xs,rfl,e⟩:=Qg7 h (fun _=>rfl) (fun _ _=>rfl);obtain⟨a,ha,rfl⟩:=ro
 cases us with
 | nil=>simp [bmU,bmL,e]at h
 | cons u t =>
  cases t with
  | cons _ _=>simp [bmU,bmL,e]at h
  | nil =>
   simp only [bmU,bmL,e]at h;split at h
   ·rename_i l;cases h;obtain⟨v,ws,rfl,ru,rn⟩:=Qr r;cases QV rn;obtain⟨ys,q,rr⟩:=R.h.ob n a _ ha e;refine⟨a,ys,v,rfl,rfl,q,?_,?_⟩
    ·rw [<-rr.length];exact Nat.lt_of_lt_of_le l big
    ·obtain⟨R',E'⟩:=R.put (o:=.lst (xs++[u])) ha ⟨_,Qg,rr.append (.cons ru .nil)⟩;exact k _ _ _ E' R' rfl
   ·cases h
theorem RUs.reverse{α:List Addr}:∀{us:List U} {vs:List V},RUs A α us vs->RUs A α us.reverse vs.reverse
 | _,_,.nil=>.nil
 | _,_,.cons r t=>by
  rw [List.reverse_cons,List.reverse_cons];exact RUs.append (RUs.reverse t) (.cons r .nil)
end
end Iv
namespace Iv
open PySem PySem.Spec PyProof.Rows L2
noncomputable def TIO(T:Tbl)(A:Adr)(K:PySem.W.Frag)(f:Rho->Hs->Option (Option Int×Hs)):TO:=fun σ H Q=>∃α ρ hs u hs',RS A α ρ σ/\Rep T A K α hs H/\f ρ hs=some (u,hs') /\
 ∀α' H',Ext α α' H H'->Rep T A K α' hs' H'->Q u H'
structure Fc(X:Cx)(T:Tbl)(A:Adr)(cf:Cf)(k:Nat):Prop where
 ok:∀f F,T.fns[f]?=some F->∃fd,FnOk X.prog X.w X.K X.mg X.base CX0 k (A.f f) fd F.ps (spC T A X.K cf f)/\Binds X.K fd F.ps []/\PySem.W.keepIn X.K (.ref (A.f f))=true
 some:∀f us hs r,cf f us hs=some r->∃F,T.fns[f]?=some F/\us.length=F.np
 df:∀i D F,T.dfl.lookup i=Option.some D->T.fns[i]?=Option.some F->∃fd,FnOk X.prog X.w X.K X.mg X.base CX0 k (A.f i) fd D.ps (spC T A X.K cf i)/\PySem.W.keepIn X.K (.ref (A.f i))=true/\Qjz A X.K fd D
 xf:∀f F,T.fns[f]?=Option.some F->∃fd,FnOk X.prog X.w X.K X.mg X.base (CXw X.prog X.w) k (A.f f) fd F.ps (spX T A X.K T.xf f)/\Binds X.K fd F.ps []/\PySem.W.keepIn X.K (.ref (A.f f))=true
structure Snd(T:Tbl)(A:Adr)(C:Ctx)(X:Cx)(cf:Cf)(m:Nat):Prop where
 e:∀d e ir,Qh m C e=some ir->PE X e (TI T A X.K (ev T cf d ir))
 t:∀d e ir,compT m C e=some ir->PT X e (TIT T A X.K (evT T cf d ir))/\PE X e (TI T A X.K (ev T cf d ir))
 an:∀d a r p ir,compAnd m C a r p=some ir->PW X (.BoolOp .And (a::r) p) (TIT T A X.K (evT T cf d ir))/\PE X (.BoolOp .And (a::r) p) (TI T A X.K (ev T cf d ir))
 orr:∀d a r p ir,compOr m C a r p=some ir->PW X (.BoolOp .Or (a::r) p) (TIT T A X.K (evT T cf d ir))/\PE X (.BoolOp .Or (a::r) p) (TI T A X.K (ev T cf d ir))
 a:∀d es irs,compA m C es=some irs->PA X es (TIA T A X.K (fun ρ hs=>evs (ev T cf d) ρ irs hs))
 o:∀d e ir,compO m C e=some ir->PO X e (TIO T A X.K (fun ρ hs=>evO (ev T cf d) ρ ir hs))
section
variable {X:Cx}{T:Tbl}{A:Adr}{C:Ctx}{cf:Cf}{m:Nat}
theorem Qax{e:Expr}{t:TT}(h:∀σ H Q,¬t σ H Q):PT X e t:=fun _ _ σ H Q _ q=>(h σ H Q q).elim
theorem Qhh{e:Expr}{t:TT}(h:∀σ H Q,¬t σ H Q):PW X e t:=fun _ _ _ σ H Q _ q=>(h σ H Q q).elim
theorem QiJ{K:PySem.W.Frag}{ir:E}:∀σ H Q,¬TI T A K (ev T cf 0 ir) σ H Q:=fun _ _ _ ⟨_,_,_,_,_,_,_,h,_⟩=>nomatch h
theorem Qb8{K:PySem.W.Frag}{ir:E}:∀σ H Q,¬TIT T A K (evT T cf 0 ir) σ H Q:=fun _ _ _ ⟨_,_,_,_,_,_,_,h,_⟩=>nomatch h
theorem Qt{e:Expr}{ir:E}{d:Nat}(h:∀d',PE X e (TI T A X.K (ev T cf (d'+1) ir))):PE X e (TI T A X.K (ev T cf d ir)):=by
 cases d with
 | zero=>exact Zw QiJ
 | succ d=>exact h d
theorem QfT{c:Const}{k:Nat}{p:Pos}{d:Nat}{ir:E}(h:Qh (m+1) C (.Constant c k p)=some ir):PE X (.Constant c k p) (TI T A X.K (ev T cf d ir)):=by
 refine Qt fun d=>?_
 cases c with
 | int i=>cases h;exact QE QaN fun σ H Q ⟨α,ρ,hs,u,hs',rs,R,e,q⟩=>by cases e;exact q α _ H Ext.refl R ⟨i,rfl,Cg.refl _ _⟩
 | bool b=>cases h;exact QE Qkf fun σ H Q ⟨α,ρ,hs,u,hs',rs,R,e,q⟩=>by cases e;exact q α _ H Ext.refl R rfl
 | none=>cases h;exact QE Qim fun σ H Q ⟨α,ρ,hs,u,hs',rs,R,e,q⟩=>by cases e;exact q α _ H Ext.refl R rfl
 | str x=>cases h;exact QE QbW fun σ H Q ⟨α,ρ,hs,u,hs',rs,R,e,q⟩=>by cases e;exact q α _ H Ext.refl R rfl
 | _=>simp [Qh]at h
theorem QhM{x:Str}{p:Pos}{d:Nat}{ir:E}(g:GX T A C X)(h:Qh (m+1) C (.Name x p)=some ir):PE X (.Name x p) (TI T A X.K (ev T cf d ir)):=by
 refine Qt fun d=>?_;simp only [Qh]at h;split at h
 ·cases h
 ·rename_i hn;have n1:(x==("__debug__":Str))=false:=QO fun z=>hn (.inl z);have n2:(x==("__classdict__":Str))=false:=QO fun z=>hn (.inr z);split at h
  ·rename_i hv;simp only [Option.map_eq_some_iff]at h;obtain⟨i,hi,rfl⟩:=h
   refine QE (Qii (i:=i) (by rw [g.N];exact QP hi) (Qhq g hv) n1 n2) ?_
   rintro σ H Q ⟨α,ρ,hs,u,hs',rs,R,e,q⟩;simp only [ev]at e;split at e
   ·rename_i w e';cases e;obtain⟨v,h1,h2⟩:=rs.get e';exact⟨v,h1,q α v H Ext.refl R h2⟩
   ·cases e
  ·split at h
   ·rename_i hg;split at h
    ·rename_i k hk;cases h;refine QE (Qac (QZ g hg) (g.gco x k hk) (v:=.ref (A.k k)) rfl n1) ?_;rintro σ H Q ⟨α,ρ,hs,u,hs',rs,R,e,q⟩;cases e;exact q α _ H Ext.refl R rfl
    ·rename_i t hk;cases h;obtain⟨k,hm⟩:=g.gtx x t hk;refine QE (Qac (QZ g hg) hm (v:=.str ⟨t.toArray⟩) ⟨_,rfl⟩ n1) ?_;rintro σ H Q ⟨α,ρ,hs,u,hs',rs,R,e,q⟩;simp only [ev]at e;cases e;exact q α _ H Ext.refl R rfl
    ·cases h
   ·cases h
theorem QjZ{a b:Expr}{o:Operator}{p:Pos}{d:Nat}{ir:E}(S:Snd T A C X cf m)(h:Qh (m+1) C (.BinOp a o b p)=some ir):PE X (.BinOp a o b p) (TI T A X.K (ev T cf d ir)):=by
 refine Qt fun d=>?_;simp only [Qh,Option.bind_eq_some_iff]at h;obtain⟨a',ha,b',hb,h⟩:=h;cases h;obtain⟨r,ho,hr⟩:=opS (X:=X) (T:=T) (A:=A) o;refine QE (Qkc ho (S.e d a a' ha) (S.e d b b' hb)) ?_;rintro σ H Q ⟨α,ρ,hs,u,hs',rs,R,e,q⟩;simp only [ev]at e;obtain⟨u1,h1,e1,e⟩:=Qb e;obtain⟨u2,h2,e2,e⟩:=Qb e;refine TI.run rs R e1 fun α1 x H1 E1 R1 r1 rs1=>?_;refine TI.run rs1 R1 e2 fun α2 y H2 E2 R2 r2 rs2=>?_;exact hr e (r1.mono E2.pre) r2 R2 fun α3 v H3 E3 R3 r3=>q α3 v H3 ((E1.trans E2 R2.h).trans E3 R3.h) R3 r3
theorem QjV{a:Expr}{p:Pos}{d:Nat}{ir:E}(S:Snd T A C X cf m)(h:Qh (m+1) C (.UnaryOp .USub a p)=some ir):PE X (.UnaryOp .USub a p) (TI T A X.K (ev T cf d ir)):=by
 refine Qt fun d=>?_;simp only [Qh,Option.bind_eq_some_iff]at h;obtain⟨a',ha,h⟩:=h;cases h;refine QE (Qij Qe4 (S.e d a a' ha)) ?_;rintro σ H Q ⟨α,ρ,hs,u,hs',rs,R,e,q⟩;simp only [ev]at e;obtain⟨u1,h1,e1,e⟩:=Qb e;refine TI.run rs R e1 fun α1 x H1 E1 R1 r1 rs1=>?_;split at e
 ·cases e;obtain⟨i,rfl,c⟩:=r1;exact⟨i,rfl,q α1 _ H1 E1 R1 ⟨_,rfl,Qfw c⟩⟩
 ·cases e
theorem QhL{a:Expr}{p:Pos}{d:Nat}{ir:E}(tx:Txt T A X.K X.mg)(S:Snd T A C X cf m)(h:Qh (m+1) C (.UnaryOp .Not a p)=some ir):PE X (.UnaryOp .Not a p) (TI T A X.K (ev T cf d ir))/\PT X (.UnaryOp .Not a p) (TIT T A X.K (evT T cf d ir)):=by
 simp only [Qh,Option.bind_eq_some_iff]at h;obtain⟨a',ha,h⟩:=h;cases h;constructor
 ·refine Qt fun d=>?_;intro pins s σ H Q I hw;obtain⟨α,ρ,hs,u,hs',rs,R,e,q⟩:=hw;simp only [ev]at e;obtain⟨u1,h1,e1,e⟩:=Qb e;simp only [Option.map_eq_some_iff]at e;obtain⟨c,e2,e⟩:=e;cases e;refine UnaryOp_ (thn ((S.t d a a' ha).2 pins s σ H (fun v H'=>Qji X.K v H' c/\Q (.bl (!c)) H') I ⟨α,ρ,hs,u1,_,rs,R,e1,fun α' v H' E' R' r'=>⟨Qbz tx R' e2 r',q α' _ H' E' R' rfl⟩⟩) fun v s1 ⟨x,H1,I1,r1,q1,q2⟩=>?_)
  exact not_of (thn (Qe7 pins s1 σ H1 x v (fun b H'=>b=c/\H'=H1) I1 r1 ⟨c,q1,rfl,rfl⟩) fun b s2 ⟨H2,I2,eb,eH⟩=>⟨.bl (!c),H2,I2,by rw [eb];rfl,by rw [eH];exact q2⟩)
 ·cases d with
  | zero=>exact Qax Qb8
  | succ d =>
   refine Qhi (Qh8 (S.t d a a' ha).1) ?_;rintro σ H Q ⟨α,ρ,hs,u,hs',rs,R,e,q⟩;simp only [evT]at e;obtain⟨c,h1,e1,e⟩:=Qb e;cases e;exact TIT.run rs R e1 fun α1 H1 E1 R1 rs1=>q α1 H1 E1 R1
end
end Iv
namespace Iv
open PySem PySem.Spec PyProof.Rows L2
section
variable {X:Cx}{T:Tbl}{A:Adr}{C:Ctx}{cf:Cf}{m:Nat}
theorem QaH{e:Expr}{ir:E}{d:Nat}(h:∀d',PT X e (TIT T A X.K (evT T cf (d'+1) ir))):PT X e (TIT T A X.K (evT T cf d ir)):=by
 cases d with
 | zero=>exact Qax Qb8
 | succ d=>exact h d
theorem QaG{e:Expr}{ir:E}{d:Nat}(h:∀d',PW X e (TIT T A X.K (evT T cf (d'+1) ir))):PW X e (TIT T A X.K (evT T cf d ir)):=by
 cases d with
 | zero=>exact Qhh Qb8
 | succ d=>exact h d
theorem QhT(S:Snd T A C X cf m)(d:Nat)(a:Expr)(r:List Expr)(p:Pos)(ir:E)(h:compAnd (m+1) C a r p=some ir):
  PW X (.BoolOp .And (a::r) p) (TIT T A X.K (evT T cf d ir))/\PE X (.BoolOp .And (a::r) p) (TI T A X.K (ev T cf d ir)):=by
 cases r with
 | nil=>exact⟨QfZ (S.t d a ir h).1,Qfg (S.t d a ir h).2⟩
 | cons b r =>
  simp only [compAnd,Option.bind_eq_some_iff]at h;obtain⟨a',ha,b',hb,h⟩:=h;cases h;constructor
  ·refine QaG fun d=>?_;refine Qjj (Qh5 (S.t d a a' ha).1 (S.an d b r p b' hb).1) ?_;rintro σ H Q ⟨α,ρ,hs,u,hs',rs,R,e,q⟩;simp only [evT]at e;obtain⟨c,h1,e1,e⟩:=Qb e;refine TIT.run rs R e1 fun α1 H1 E1 R1 rs1=>?_
   cases c with
   | true=>exact TIT.run rs1 R1 e fun α2 H2 E2 R2 rs2=>q α2 H2 (E1.trans E2 R2.h) R2
   | false=>cases e;exact q α1 H1 E1 R1
  ·refine Qt fun d=>?_;refine QE (Qiq (S.t d a a' ha).2 (S.an d b r p b' hb).2) ?_;rintro σ H Q ⟨α,ρ,hs,u,hs',rs,R,e,q⟩;simp only [ev]at e;obtain⟨u1,h1,e1,e⟩:=Qb e;refine TI.run rs R e1 fun α1 x H1 E1 R1 r1 rs1=>?_;split at e
   ·cases(show x=_ from r1);exact⟨true,rfl,TI.run rs1 R1 e fun α2 v H2 E2 R2 r2 rs2=>q α2 v H2 (E1.trans E2 R2.h) R2 r2⟩
   ·cases(show x=_ from r1);cases e;exact⟨false,rfl,q α1 _ H1 E1 R1 rfl⟩
   ·cases e
theorem QlH(S:Snd T A C X cf m)(d:Nat)(a:Expr)(r:List Expr)(p:Pos)(ir:E)(h:compOr (m+1) C a r p=some ir):
  PW X (.BoolOp .Or (a::r) p) (TIT T A X.K (evT T cf d ir))/\PE X (.BoolOp .Or (a::r) p) (TI T A X.K (ev T cf d ir)):=by
 cases r with
 | nil=>exact⟨Qh4 (S.t d a ir h).1,Qfg (S.t d a ir h).2⟩
 | cons b r =>
  simp only [compOr,Option.bind_eq_some_iff]at h;obtain⟨a',ha,b',hb,h⟩:=h;cases h;constructor
  ·refine QaG fun d=>?_;refine Qjj (Qka (S.t d a a' ha).1 (S.orr d b r p b' hb).1) ?_;rintro σ H Q ⟨α,ρ,hs,u,hs',rs,R,e,q⟩;simp only [evT]at e;obtain⟨c,h1,e1,e⟩:=Qb e;refine TIT.run rs R e1 fun α1 H1 E1 R1 rs1=>?_
   cases c with
   | false=>exact TIT.run rs1 R1 e fun α2 H2 E2 R2 rs2=>q α2 H2 (E1.trans E2 R2.h) R2
   | true=>cases e;exact q α1 H1 E1 R1
  ·refine Qt fun d=>?_;refine QE (Qkb (S.t d a a' ha).2 (S.orr d b r p b' hb).2) ?_;rintro σ H Q ⟨α,ρ,hs,u,hs',rs,R,e,q⟩;simp only [ev]at e;obtain⟨u1,h1,e1,e⟩:=Qb e;refine TI.run rs R e1 fun α1 x H1 E1 R1 r1 rs1=>?_;split at e
   ·cases(show x=_ from r1);cases e;exact⟨true,rfl,q α1 _ H1 E1 R1 rfl⟩
   ·cases(show x=_ from r1);exact⟨false,rfl,TI.run rs1 R1 e fun α2 v H2 E2 R2 r2 rs2=>q α2 v H2 (E1.trans E2 R2.h) R2 r2⟩
   ·cases e
theorem QiK{b:Expr}{b':E}{o:CmpOp}(h:Qh m C b=some b'):behindInMarks o b=false:=by
 cases b<;>first | rfl | skip
 cases m<;>simp [Qh]at h
theorem QhR{a b:Expr}{o:CmpOp}{p:Pos}{d:Nat}{ir:E}(tx:Txt T A X.K X.mg)(tab:Jh X.prog X.w T A X.K)(hu:X.A.units+64<cLine)(S:Snd T A C X cf m)(h:Qh (m+1) C (.Compare a [o] [b] p)=some ir):
  PE X (.Compare a [o] [b] p) (TI T A X.K (ev T cf d ir))/\PT X (.Compare a [o] [b] p) (TIT T A X.K (evT T cf d ir)):=by
 simp only [Qh,Option.bind_eq_some_iff]at h;obtain⟨a',ha,b',hb,h⟩:=h;cases h;obtain⟨r,ho,hr⟩:=Qny (X:=X) (T:=T) (A:=A) tx tab hu o
 have key:∀(d:Nat) (σ:St) (H:Hp) (Q:VK) (α:List Addr) (ρ:Rho) (hs hs':Hs) (u:U),RS A α ρ σ->Rep T A X.K α hs H->ev T cf (d+1) (.cmp o a' b') ρ hs=some (u,hs') ->
   (∀α' c H',u=.bl c->Ext α α' H H'->Rep T A X.K α' hs' H'->Q (.bl c) H')->tOp r (TI T A X.K (ev T cf d a')) (TI T A X.K (ev T cf d b')) σ H Q:=by
  intro d σ H Q α ρ hs hs' u rs R e q;simp only [ev]at e;obtain⟨u1,h1,e1,e⟩:=Qb e;obtain⟨u2,h2,e2,e⟩:=Qb e;simp only [Option.map_eq_some_iff]at e;obtain⟨c,e3,e⟩:=e;cases e;refine TI.run rs R e1 fun α1 x H1 E1 R1 r1 rs1=>?_;refine TI.run rs1 R1 e2 fun α2 y H2 E2 R2 r2 rs2=>?_;exact hr e3 (r1.mono E2.pre) r2 R2 (q α2 c H2 rfl (E1.trans E2 R2.h) R2)
 constructor
 ·refine Qt fun d=>?_;refine QE (Qgg ho (S.e d a a' ha) (S.e d b b' hb) (QiK hb)) ?_;rintro σ H Q ⟨α,ρ,hs,u,hs',rs,R,e,q⟩
  exact key d σ H Q α ρ hs hs' u rs R e fun α' c H' eu E' R'=>q α' _ H' E' R' (by rw [eu];rfl)
 ·refine QaH fun d=>?_
  cases d with
  | zero=>exact Qax fun _ _ _ ⟨_,_,_,_,_,_,_,h,_⟩=>by simp [evT,ev,bd]at h
  | succ d =>
   refine Qhi (Qf0 ho (S.e d a a' ha) (S.e d b b' hb) (QiK hb)) ?_;rintro σ H Q ⟨α,ρ,hs,u,hs',rs,R,e,q⟩;simp only [evT]at e;obtain⟨u1,h1,e1,e⟩:=Qb e;simp only [Option.map_eq_some_iff]at e;obtain⟨c,e3,e⟩:=e;cases e;refine key d σ H _ α ρ hs _ u1 rs R e1 fun α' c' H' eu E' R'=>⟨c',rfl,?_⟩;rw [eu]at e3;cases e3;exact q α' H' E' R'
theorem QfS{t a b:Expr}{p:Pos}{d:Nat}{ir:E}(S:Snd T A C X cf m)(h:Qh (m+1) C (.IfExp t a b p)=some ir):PE X (.IfExp t a b p) (TI T A X.K (ev T cf d ir)):=by
 refine Qt fun d=>?_;simp only [Qh,Option.bind_eq_some_iff]at h;obtain⟨t',ht,a',ha,b',hb,h⟩:=h;cases h;refine QE (Qeg (S.t d t t' ht).1 (S.e d a a' ha) (S.e d b b' hb)) ?_;rintro σ H Q ⟨α,ρ,hs,u,hs',rs,R,e,q⟩;simp only [ev]at e;obtain⟨c,h1,e1,e⟩:=Qb e;refine TIT.run rs R e1 fun α1 H1 E1 R1 rs1=>?_
 cases c with
 | true=>exact TI.run rs1 R1 e fun α2 v H2 E2 R2 r2 rs2=>q α2 v H2 (E1.trans E2 R2.h) R2 r2
 | false=>exact TI.run rs1 R1 e fun α2 v H2 E2 R2 r2 rs2=>q α2 v H2 (E1.trans E2 R2.h) R2 r2
theorem ZW{f:Ev}{ρ:Rho}:∀{es:List E} {hs hs':Hs} {us:List U},evs f ρ es hs=some (us,hs')->us.length=es.length
 | [],_,_,_,h=>by cases h;rfl
 | e::r,hs,hs',us,h=>by
  simp only [evs]at h;obtain⟨u,h1,e1,h⟩:=Qb h;obtain⟨ws,h2,e2,h⟩:=Qb h;cases h;simp [ZW e2]
theorem QC{C:Ctx}:∀{m:Nat} {es:List Expr} {irs:List E},compA m C es=some irs->irs.length=es.length
 | 0,_,_,h=>by simp [compA]at h
 | m+1,[],_,h=>by cases h;rfl
 | m+1,e::r,irs,h=>by
  simp only [compA,Option.bind_eq_some_iff]at h;obtain⟨e',he,r',hr,h⟩:=h;cases h;simp [QC hr]
theorem Qfc(S:Snd T A C X cf m)(d:Nat)(es:List Expr)(irs:List E)(h:compA (m+1) C es=some irs):PA X es (TIA T A X.K (fun ρ hs=>evs (ev T cf d) ρ irs hs)):=by
 cases es with
 | nil =>
  cases h;refine Qjl Jr ?_;rintro σ H Q ⟨α,ρ,hs,u,hs',rs,R,e,q⟩;cases e;exact q α [] H Ext.refl R .nil
 | cons e r =>
  simp only [compA,Option.bind_eq_some_iff]at h;obtain⟨e',he,r',hr,h⟩:=h;cases h;refine Qjl (Zr (S.e d e e' he) (S.a d r r' hr) (Qk (Qv he))) ?_;rintro σ H Q ⟨α,ρ,hs,u,hs',rs,R,e,q⟩;simp only [evs]at e;obtain⟨u1,h1,e1,e⟩:=Qb e;obtain⟨us,h2,e2,e⟩:=Qb e;cases e;refine TI.run rs R e1 fun α1 x H1 E1 R1 r1 rs1=>?_;exact TIA.run rs1 R1 e2 fun α2 xs H2 E2 R2 r2 rs2=>q α2 _ H2 (E1.trans E2 R2.h) R2 (.cons (r1.mono E2.pre) r2)
theorem QhK(S:Snd T A C X cf m)(d:Nat)(e:Option Expr)(ir:Option E)(h:compO (m+1) C e=some ir):PO X e (TIO T A X.K (fun ρ hs=>evO (ev T cf d) ρ ir hs)):=by
 cases e with
 | none =>
  cases h;intro pins s σ H Q I hw;refine Qf7 pins s σ H Q I ?_;obtain⟨α,ρ,hs,u,hs',rs,R,e,q⟩:=hw;cases e;exact q α H Ext.refl R
 | some e =>
  simp only [compO,Option.bind_eq_some_iff]at h;obtain⟨e',he,h⟩:=h;cases h;intro pins s σ H Q I hw;refine QbS (S.e d e e' he) pins s σ H Q I ?_;obtain⟨α,ρ,hs,u,hs',rs,R,e,q⟩:=hw;simp only [evO]at e;obtain⟨u1,h1,e1,e⟩:=Qb e;refine TI.run rs R e1 fun α1 x H1 E1 R1 r1 rs1=>?_;split at e
  ·cases e;obtain⟨i,rfl,c⟩:=r1;cases c.exact;exact⟨_,rfl,q α1 H1 E1 R1⟩
  ·cases e
theorem TIO.run{T:Tbl}{A:Adr}{K:PySem.W.Frag}{α:List Addr}{ρ:Rho}{σ:St}{hs h1:Hs}{H:Hp}{f:Rho->Hs->Option (Option Int×Hs)}{u:Option Int}{Q:Option Int->Hp->Prop}(rs:RS A α ρ σ)(rp:Rep T A K α hs H)(h:f ρ hs=some (u,h1))
  (k:∀α1 H1,Ext α α1 H H1->Rep T A K α1 h1 H1->RS A α1 ρ σ->Q u H1):TIO T A K f σ H Q :=
 ⟨α,ρ,hs,u,h1,rs,rp,h,fun α1 H1 e r=>k α1 H1 e r (rs.mono e.pre)⟩
theorem QfP{es:List Expr}{k:Nat}{p:Pos}{d:Nat}{ir:E}(S:Snd T A C X cf m)(h:Qh (m+1) C (.Tuple es k p)=some ir):PE X (.Tuple es k p) (TI T A X.K (ev T cf d ir)):=by
 refine Qt fun d=>?_;simp only [Qh]at h;split at h
 case isFalse=>cases h
 rename_i hz;simp only [Option.bind_eq_some_iff]at h;obtain⟨es',he,h⟩:=h;cases h;refine QE (Qik (S.a d es es' he)) ?_;rintro σ H Q ⟨α,ρ,hs,u,hs',rs,R,e,q⟩;simp only [ev]at e;obtain⟨us,h1,e1,e⟩:=Qb e;cases e;refine TIA.run rs R e1 fun α1 vs H1 E1 R1 r1 rs1=>⟨?_,fun p hp=>?_⟩
 ·rw [<-r1.length,ZW e1,QC he];exact Nat.le_trans hz big
 ·obtain⟨R',E'⟩:=R1.new (o:=.tup us) hp ⟨_,Qg,RUs.mono Qu r1⟩
  exact q _ _ _ (E1.trans E' R'.h) R' ⟨p,by rw [<-R1.h.len];exact Qz,rfl⟩
theorem QhQ{es:List Expr}{p:Pos}{d:Nat}{ir:E}(S:Snd T A C X cf m)(h:Qh (m+1) C (.List es p)=some ir):PE X (.List es p) (TI T A X.K (ev T cf d ir)):=by
 refine Qt fun d=>?_;simp only [Qh]at h;split at h
 case isFalse=>cases h
 rename_i hz;simp only [Option.bind_eq_some_iff]at h;obtain⟨es',he,h⟩:=h;cases h;refine QE (Qin (S.a d es es' he)) ?_;rintro σ H Q ⟨α,ρ,hs,u,hs',rs,R,e,q⟩;simp only [ev]at e;obtain⟨us,h1,e1,e⟩:=Qb e;cases e;refine TIA.run rs R e1 fun α1 vs H1 E1 R1 r1 rs1=>⟨?_,fun p hp=>?_⟩
 ·rw [<-r1.length,ZW e1,QC he];exact Nat.le_trans hz big
 ·obtain⟨R',E'⟩:=R1.new (o:=.lst us) hp ⟨_,Qg,RUs.mono Qu r1⟩
  exact q _ _ _ (E1.trans E' R'.h) R' ⟨p,by rw [<-R1.h.len];exact Qz,rfl⟩
theorem QfR{a:Expr}{lo hi:Option Expr}{p p2:Pos}{d:Nat}{ir:E}(S:Snd T A C X cf m)(h:((Qh m C a).bind fun a'=>(compO m C lo).bind fun l=>(compO m C hi).bind fun h=>some (E.sl a' l h))=some ir):PE X (.Subscript a (.Slice lo hi none p2) p) (TI T A X.K (ev T cf d ir)):=by
 refine Qt fun d=>?_;simp only [Option.bind_eq_some_iff]at h;obtain⟨a',ha,l',hl,h',hh,h⟩:=h;cases h;refine QE (Qee (sl_list.or (sl_tup.or QhD)) (S.e d a a' ha) (S.o d lo l' hl) (S.o d hi h' hh)) ?_;rintro σ H Q ⟨α,ρ,hs,u,hs',rs,R,e,q⟩;simp only [ev]at e;obtain⟨u1,h1,e1,e⟩:=Qb e;obtain⟨u2,h2,e2,e⟩:=Qb e;obtain⟨u3,h3,e3,e⟩:=Qb e;refine TI.run rs R e1 fun α1 x H1 E1 R1 r1 rs1=>?_;refine TIO.run rs1 R1 e2 fun α2 H2 E2 R2 rs2=>?_;refine TIO.run rs2 R2 e3 fun α3 H3 E3 R3 rs3=>?_;exact QhE e ((r1.mono E2.pre).mono E3.pre) R3 fun α4 z H4 E4 R4 r4=>q α4 z H4 (((E1.trans E2 R2.h).trans E3 R3.h).trans E4 R4.h) R4 r4
theorem QgF{a b:Expr}{a' b':E}{p:Pos}{d:Nat}(hu:X.A.units+1<cLine)(tx:Txt T A X.K X.mg)(ha:PE X a (TI T A X.K (ev T cf d a')))(hb:PE X b (TI T A X.K (ev T cf d b')))(hs:Zo b=true):PE X (.Subscript a b p) (TI T A X.K (ev T cf (d+1) (.ix a' b'))):=by
 refine QE (Qkd (ix_seq.or (QgE hu)) ha hb (ZT hs)) ?_;rintro σ H Q ⟨α,ρ,hs,u,hs',rs,R,e,q⟩;simp only [ev]at e;obtain⟨u1,h1,e1,e⟩:=Qb e;obtain⟨u2,h2,e2,e⟩:=Qb e;simp only [Option.map_eq_some_iff]at e;obtain⟨x,e3,e⟩:=e;cases e;refine TI.run rs R e1 fun α1 x H1 E1 R1 r1 rs1=>?_;refine TI.run rs1 R1 e2 fun α2 y H2 E2 R2 r2 rs2=>?_;exact QfK tx e3 (r1.mono E2.pre) r2 R2 fun z rz=>q α2 z H2 (E1.trans E2 R2.h) R2 rz
theorem RF.look{α:List Addr}{x:Str}{k:Nat}{u:U}(hk:T.fns'[k]?=some x)(nd:T.fns'.Nodup):∀{fs:List (Nat×U)} {fv:List (Str×V)},RF T A α fs fv->fs.lookup k=some u->∃v,fv.lookup x=some v/\RU A α u v
 | _,_,.nil,h=>by cases h
 | _,_,.cons (a:=p) (b:=q) r t,h=>by
  obtain⟨pk,pu⟩:=p;obtain⟨qx,qv⟩:=q;rw [List.lookup_cons]at h ⊢;by_cases e:k=pk
  ·subst e;rw [beq_self_eq_true]at h;cases h;have e2:x=qx:=Option.some.inj (hk.symm.trans r.1);subst e2;rw [beq_self_eq_true];exact⟨qv,rfl,r.2⟩
  ·have n1:(k==pk)=false:=by simpa using e
   rw [n1]at h
   have n2:(x==qx)=false:=by
    rw [beq_eq_false_iff_ne];rintro rfl;obtain⟨l1,q1⟩:=List.getElem?_eq_some_iff.mp hk;obtain⟨l2,q2⟩:=List.getElem?_eq_some_iff.mp r.1;exact e ((List.getElem_inj nd).mp (q1.trans q2.symm))
   rw [n2];exact RF.look hk nd t h
theorem QhS{a:Expr}{f:Str}{p:Pos}{d:Nat}{ir:E}(g:GX T A C X)(S:Snd T A C X cf m)(h:Qh (m+1) C (.Attribute a f p)=some ir):PE X (.Attribute a f p) (TI T A X.K (ev T cf d ir)):=by
 refine Qt fun d=>?_;simp only [Qh]at h;split at h
 ·rename_i hn;simp only [Option.bind_eq_some_iff]at h;obtain⟨a',ha,k,hk,h⟩:=h;cases h
  have hk':T.fns'[k]?=some f:=by rw [<-g.CT];exact QP hk
  refine QE (Qio (S.e d a a' ha) (Zh hn)) ?_;rintro σ H Q ⟨α,ρ,hs,u,hs',rs,R,e,q⟩;simp only [ev]at e;obtain⟨u1,h1,e1,e⟩:=Qb e;refine TI.run rs R e1 fun α1 x H1 E1 R1 r1 rs1=>?_;split at e
  ·rename_i n;obtain⟨pa,hpa,rfl⟩:=r1;split at e
   ·rename_i c fs eo;simp only [Option.map_eq_some_iff]at e;obtain⟨w,el,e⟩:=e;cases e;obtain⟨dx,fv,q1,rf,lc⟩:=R1.h.ob n pa _ hpa eo;obtain⟨v,l1,rv⟩:=RF.look hk' g.txt.fd rf el;have cl:=g.txt.cl c _ (List.getElem?_eq_getElem lc);exact⟨pa,A.c c,dx,fv,v,rfl,q1,cl.cls,cl.nf f (List.mem_of_getElem? hk'),l1,q α1 v H1 E1 R1 rv⟩
   ·cases e
  ·cases e
 ·cases h
end
end Iv
namespace Iv
open PySem PySem.Spec PyProof.Rows L2
section
variable {X:Cx}{T:Tbl}{A:Adr}{C:Ctx}{cf:Cf}{m k:Nat}
theorem Qde{vs:List (Key×Value)}{y:U}{x:U}{yv:V}{α:List Addr}(ky:Y5 y=true)(ry:RU A α y yv):∀{kvs:List (U×U)},Paired (fun(p:U×U) (q:Key×Value)=>QgD p.1 q.1/\∃v,RU A [] p.2 v/\RelV v q.2) kvs vs->ZC kvs y=some x ->
  ∃key v u,yv=kV key/\valueAt vs key=some u/\RU A [] x v/\RelV v u:=by
 obtain⟨key,hy,hk⟩:∃key,yv=kV key/\QgD y key:=by
  cases y with
  | int i m =>
   cases m with
   | zero=>obtain⟨j,rfl,c⟩:=ry;cases c.exact;exact⟨.inl i,rfl,rfl⟩
   | succ m=>cases ky
  | str z=>cases(show yv=_ from ry);exact⟨.inr ⟨z.toArray⟩,rfl,rfl⟩
  | _=>cases ky
 have inj:∀{p:U} {q:Key},QgD p q->(p=y↔q=key):=by
  intro p q hp
  cases y with
  | int i m =>
   cases m with
   | succ m=>cases ky
   | zero =>
    cases(show key=_ from hk)
    cases p with
    | int j n =>
     cases n with
     | succ n=>exact(show False from hp).elim
     | zero=>cases(show q=_ from hp);exact⟨fun e=>(by cases e;rfl),fun e=>(by cases e;rfl)⟩
    | str z=>cases(show q=_ from hp);exact⟨fun e=>(by cases e),fun e=>(by cases e)⟩
    | _=>exact(show False from hp).elim
  | str z =>
   cases(show key=_ from hk)
   cases p with
   | int j n =>
    cases n with
    | succ n=>exact(show False from hp).elim
    | zero=>cases(show q=_ from hp);exact⟨fun e=>(by cases e),fun e=>(by cases e)⟩
   | str z' =>
    cases(show q=_ from hp)
    refine⟨fun e=>(by cases e;rfl),fun e=>?_⟩
    have e1:=Sum.inr.inj e;have e2:=congrArg (fun s:Str=>s.cps.toList) e1
    have e3:z'=z:=by simpa using e2
    rw [e3]
   | _=>exact(show False from hp).elim
  | _=>cases ky
 intro kvs r
 induction r with
 | nil=>intro h;cases h
 | @cons p q ps qs hpq t ih =>
  intro h;obtain⟨pk,pv⟩:=p;obtain⟨qk,qv⟩:=q;obtain⟨h1,v,h2,h3⟩:=hpq;simp only [ZC]at h;by_cases e:pk=y
  ·rw [if_pos e]at h;cases h;have e2:qk=key:=(inj h1).mp e
   exact⟨key,v,qv,hy,by simp [valueAt,e2],h2,h3⟩
  ·rw [if_neg e]at h;obtain⟨key',v',u',g1,g2,g3,g4⟩:=ih h
   have e1:key'=key:=by
    rw [hy]at g1;cases key<;>cases key'<;>simp_all [kV]
   subst e1;have e2:¬qk=key':=fun z=>e ((inj h1).mpr z);refine⟨key',v',u',g1,?_,g3,g4⟩;simp only [valueAt,List.find?_cons];rw [decide_eq_false e2];exact g2
theorem QjT{x:Str}{b:Expr}{p pos:Pos}{i d:Nat}{b':E}(g:GX T A C X)(hb:PE X b (TI T A X.K (ev T cf d b')))(hs:Zo b=true)(hg:ZQ C x=true)(hn:x≠"__debug__") (hx:C.gl.lookup x=some (.con i)):
  PE X (.Subscript (.Name x p) b pos) (TI T A X.K (ev T cf (d+1) (.tab i b'))):=by
 intro pins s σ H Q I h;obtain⟨α,ρ,hs',u,hs2,rs,R,e,q⟩:=h;simp only [ev]at e;obtain⟨w,h1,e1,e⟩:=Qb e;simp only [Option.map_eq_some_iff]at e;obtain⟨z,e2,e⟩:=e;cases e;unfold QlC at e2;split at e2
 case h_2=>cases e2
 rename_i kvs ec;split at e2
 case isFalse=>cases e2
 rename_i ky;obtain⟨vs,_,hd,hp⟩:=g.tab i kvs ec;refine QbC PySem.F.slot_dict_getitem.lookup (ZT hs) (Zj I (QZ g hg) (g.gco x i hx) ?_ (QO hn));refine thn (hb pins s σ H (fun y H1=>∃α1,Ext α α1 H H1/\Rep T A X.K α1 hs2 H1/\RU A α1 w y) I (TI.run rs R e1 fun α1 y H1 E1 R1 r1 rs1=>⟨α1,E1,R1,r1⟩)) fun iv s1 ⟨y,H1,I1,ry,α1,E1,R1,r1⟩=>?_;obtain⟨key,v,u',ey,ev',rv,rl⟩:=Qde ky r1 hp e2;have dd:=hd s1.heap I1.kIn;subst ey
 exact⟨dd.typeIs,wpAny_getItem_of (Y7 ry) dd.mapOf ev' ⟨v,H1,I1.tok _,rl,q α1 v H1 E1 R1 (RU.mono (fun n a e=>by simp at e) rv)⟩⟩
theorem QaC{α:List Addr}{us:List U}{vs:List V}{hs hs':Hs}{H:Hp}{u:U}{f:Nat}{Q:VK}{E:XK}(F:Fc X T A cf k)(r:RUs A α us vs)(R:Rep T A X.K α hs H)(e:cf f us hs=some (u,hs'))
  (q:∀α' v H',Ext α α' H H'->Rep T A X.K α' hs' H'->RU A α' u v->Q v H'):spC T A X.K cf f vs H Q E:=⟨α,us,hs,u,hs',r,R,e,F.some f us hs _ e,q⟩
theorem Qfb{x:Str}{args:List Expr}{p pos:Pos}{i d:Nat}{es:List E}(g:GX T A C X)(F:Fc X T A cf k)(hr:Room k X.A)(S:Snd T A C X cf m)(hg:ZQ C x=true)(hn:x≠"__debug__") (hx:C.gl.lookup x=some (.fn i)) (ha:compA m C args=some es):
  PE X (.Call (.Name x p) args [] pos) (TI T A X.K (ev T cf (d+1) (.call i es))):=by
 cases hF:T.fns[i]? with
 | none =>
  refine Zw ?_;rintro σ H Q ⟨α,ρ,hs,u,hs',rs,R,e,q⟩;simp only [ev]at e;obtain⟨us,h1,e1,e⟩:=Qb e;obtain⟨F',h,_⟩:=F.some _ _ _ _ e;rw [hF]at h;cases h
 | some Fn =>
  obtain⟨fd,G,b,kp⟩:=F.ok i Fn hF;have pa:=S.a d args es ha
  have key:∀σ H Q,TI T A X.K (ev T cf (d+1) (.call i es)) σ H Q->Qdh (spC T A X.K cf i) [] E0 (TIA T A X.K (fun ρ hs=>evs (ev T cf d) ρ es hs)) σ H Q:=by
   rintro σ H Q ⟨α,ρ,hs,u,hs',rs,R,e,q⟩;simp only [ev]at e;obtain⟨us,h1,e1,e⟩:=Qb e;refine TIA.run rs R e1 fun α1 vs H1 E1 R1 r1 rs1=>?_;rw [List.append_nil];exact QaC F r1 R1 e fun α2 v H2 E2 R2 r2=>q α2 v H2 (E1.trans E2 R2.h) R2 r2
  cases args with
  | nil =>
   have ee:es=[]:=by
    have:=QC ha;simpa using this
   subst ee;refine QE (QaP G hr (QZ g hg) (g.gfn x i hx) kp b .nil Qae (QO hn)) fun σ H Q h=>?_;have h2:=key σ H Q h;obtain⟨α,ρ,hs,us,hs',rs,R,e,q⟩:=h2;cases e;exact q α [] H Ext.refl R .nil
  | cons a r=>exact QE (Qb0 G hr (QZ g hg) (g.gfn x i hx) kp b .nil Qae pa (QO hn) (Qk (Qn ha a (List.mem_cons_self ..))) (Q4 fun z hz=>Qn ha z (List.mem_cons_of_mem _ hz))) key
theorem Qcx{f:Ev}{ρ:Rho}:∀{a b:List E} {us:List U} {hs h2:Hs},evs f ρ (a++b) hs=some (us,h2)->∃ua ub h1,evs f ρ a hs=some (ua,h1)/\evs f ρ b h1=some (ub,h2)/\us=ua++ub
 | [],b,us,hs,h2,h=>⟨[],us,hs,rfl,h,rfl⟩
 | e::a,b,us,hs,h2,h=>by
  have h:bd (f e ρ hs) (fun u h1=>bd (evs f ρ (a++b) h1) fun us h2=>some (u::us,h2))=some (us,h2):=h;obtain⟨u,h1,e1,h⟩:=Qb h;obtain⟨ws,h3,e2,h⟩:=Qb h;cases h;obtain⟨ua,ub,h4,e3,e4,rfl⟩:=Qcx e2;refine⟨u::ua,ub,h4,?_,e4,rfl⟩;show bd (f e ρ hs) (fun u h1=>bd (evs f ρ a h1) fun us h2=>some (u::us,h2))=_;rw [e1];show bd (evs f ρ a h1) _=_;rw [e3];rfl
theorem Qcw{d:Nat}{ρ:Rho}:∀{cs us:List U} {hs h2:Hs},evs (ev T cf d) ρ (cs.map .c) hs=some (us,h2)->us=cs/\h2=hs
 | [],us,hs,h2,h=>by cases h;exact⟨rfl,rfl⟩
 | c::cs,us,hs,h2,h=>by
  have h:bd (ev T cf d (.c c) ρ hs) (fun u h1=>bd (evs (ev T cf d) ρ (cs.map .c) h1) fun us h2=>some (u::us,h2))=some (us,h2):=h;obtain⟨u,h1,e1,h⟩:=Qb h;obtain⟨ws,h3,e2,h⟩:=Qb h;cases h
  cases d with
  | zero=>simp [ev]at e1
  | succ d =>
   simp only [ev]at e1;cases e1;obtain⟨rfl,rfl⟩:=Qcw e2;exact⟨rfl,rfl⟩
theorem RUs.app{α:List Addr}{us ws:List U}{vs zs:List V}(a:RUs A α us vs)(b:RUs A α ws zs):RUs A α (us++ws) (vs++zs):=a.append b
theorem Vals.dropN{vs:List V}{us:List Value}(r:Vals vs us):∀n,Vals (vs.drop n) (us.drop n):=fun n=>by
 induction r generalizing n with
 | nil=>simp;exact .nil
 | cons a t ih =>
  cases n with
  | zero=>exact .cons a t
  | succ n=>exact ih n
theorem QfU{x:Str}{args:List Expr}{p pos:Pos}{i d:Nat}{es:List E}{ir:E}(g:GX T A C X)(F:Fc X T A cf k)(hr:Room k X.A)(S:Snd T A C X cf m)(hg:ZQ C x=true)(hn:x≠"__debug__") (hx:C.gl.lookup x=some (.fn i)) (ha:compA m C args=some es) (h:Qkg C i es=some ir):
  PE X (.Call (.Name x p) args [] pos) (TI T A X.K (ev T cf (d+1) ir)):=by
 unfold Qkg at h;rw [g.CT]at h;split at h
 ·cases h;exact Qfb g F hr S hg hn hx ha
 rename_i D hD;split at h
 case isFalse=>cases h
 cases h;generalize D.ds.length-(D.np-es.length)=n
 cases hF:T.fns[i]? with
 | none =>
  refine Zw ?_;rintro σ H Q ⟨α,ρ,hs,u,hs',rs,R,e,q⟩;simp only [ev]at e;obtain⟨us,h1,e1,e⟩:=Qb e;obtain⟨F',h,_⟩:=F.some _ _ _ _ e;rw [hF]at h;cases h
 | some Fn =>
  obtain⟨fd,G,kp,ds,dvs,rd,vd,hb,_⟩:=F.df i D Fn hD hF;have pa:=S.a d args es ha
  have key:∀σ H Q,TI T A X.K (ev T cf (d+1) (.call i (es++(D.ds.drop n).map .c))) σ H Q->Qdh (spC T A X.K cf i) (dvs.drop n) E0 (TIA T A X.K (fun ρ hs=>evs (ev T cf d) ρ es hs)) σ H Q:=by
   rintro σ H Q ⟨α,ρ,hs,u,hs',rs,R,e,q⟩;simp only [ev]at e;obtain⟨us,h1,e1,e⟩:=Qb e;obtain⟨ua,ub,h2,e2,e3,rfl⟩:=Qcx e1;obtain⟨rfl,rfl⟩:=Qcw e3;refine TIA.run rs R e2 fun α1 vs H1 E1 R1 r1 rs1=>?_
   exact QaC F (r1.app (RUs.mono (fun n a e=>by simp at e) (RUs.drop n rd))) R1 e fun α2 v H2 E2 R2 r2=>q α2 v H2 (E1.trans E2 R2.h) R2 r2
  cases args with
  | nil =>
   have ee:es=[]:=by
    have:=QC ha;simpa using this
   subst ee;refine QE (QaP G hr (QZ g hg) (g.gfn x i hx) kp (hb n) (Vals.dropN vd n) Qae (QO hn)) fun σ H Q h=>?_;have h2:=key σ H Q h;obtain⟨α,ρ,hs,us,hs',rs,R,e,q⟩:=h2;cases e;exact q α [] H Ext.refl R .nil
  | cons a r=>exact QE (Qb0 G hr (QZ g hg) (g.gfn x i hx) kp (hb n) (Vals.dropN vd n) Qae pa (QO hn) (Qk (Qn ha a (List.mem_cons_self ..))) (Q4 fun z hz=>Qn ha z (List.mem_cons_of_mem _ hz))) key
theorem QhO{x:Str}{args:List Expr}{p pos:Pos}{i d:Nat}{es:List E}(g:GX T A C X)(F:Fc X T A cf k)(hr:Room (k+1) X.A)(S:Snd T A C X cf m)(hg:ZQ C x=true)(hn:x≠"__debug__") (hx:C.gl.lookup x=some (.cls i)) (ha:compA m C args=some es):
  PE X (.Call (.Name x p) args [] pos) (TI T A X.K (ev T cf (d+1) (.make i es))):=by
 cases hC:T.cls[i]? with
 | none =>
  refine Zw ?_;rintro σ H Q ⟨α,ρ,hs,u,hs',rs,R,e,q⟩;simp only [ev]at e;obtain⟨us,h1,e1,e⟩:=Qb e;simp [Qbh,hC]at e
 | some Cl =>
  have cl:=g.txt.cl i Cl hC;have li:i<T.cls.length:=(List.getElem?_eq_some_iff.mp hC).1;have pa:=S.a d args es ha
  -- the new instance
  have new:∀{α:List Addr} {hs:Hs} {H:Hp} (R:Rep T A X.K α hs H) (x dx:Addr),H x=none->H dx=none->dx≠x ->
    Rep T A X.K (α++[x]) (hs++[.ins i []]) (upd (upd H dx (.own x)) x (.ins (A.c i) dx []))/\Ext α (α++[x]) H (upd (upd H dx (.own x)) x (.ins (A.c i) dx [])):=by
   intro α hs H R x dx hx hd hne
   have ne:∀b y,H b=some y->b≠dx:=fun b y e z=>by rw [z,hd]at e;cases e
   have R0:Rep T A X.K α hs (upd H dx (.own x)):=⟨⟨R.h.len,R.h.nd,fun n a o e1 e2=>RO.keep (R.h.ob n a o e1 e2) (fun _ _ e=>e) fun y e=>by rw [Qe (ne _ _ e)];exact e⟩,R.s.keep fun y e _=>by rw [Qe (ne _ _ e)];exact e⟩
   obtain⟨R1,E1⟩:=R0.new (p:=x) (o:=.ins i []) (ho:=.ins (A.c i) dx []) (by rw [Qe (Ne.symm hne)];exact hx) ⟨dx,[],Qg,.nil,li⟩
   refine⟨R1,⟨E1.pre,fun n a e l=>?_,fun b o e hb=>E1.keep b o (by rw [Qe (ne _ _ e)];exact e) hb,fun b o kv e=>E1.fz b o kv (by rw [Qe (ne _ _ e)];exact e)⟩⟩
   rcases QK e with z | ⟨_,z⟩
   ·have:=getElem?_lt z;omega
   ·rw [z];exact hx
  cases hi:Cl.init with
  | none =>
   have ini:=cl.ini;rw [hi]at ini
   cases args with
   | cons a r =>
    refine Zw ?_;rintro σ H Q ⟨α,ρ,hs,u,hs',rs,R,e,q⟩;simp only [ev]at e;obtain⟨us,h1,e1,e⟩:=Qb e;have l1:=ZW e1;rw [QC ha]at l1;simp only [Qbh,hC,hi]at e;split at e
    ·rename_i z;rw [z]at l1;simp at l1
    ·cases e
   | nil =>
    refine QE (QbX (C:=A.c i) ⟨cl.mks,ini,cl.kp⟩ (QZ g hg) (g.gcl x i hx) (QO hn)) ?_;rintro σ H Q ⟨α,ρ,hs,u,hs',rs,R,e,q⟩
    have ee:es=[]:=by
     have:=QC ha;simpa using this
    subst ee;simp only [ev,evs,bd,Qbh,hC,hi,if_true]at e;cases e;intro y dx h1 h2 h3;obtain⟨R1,E1⟩:=new R y dx h1 h2 h3
    exact q _ _ _ E1 R1 ⟨y,by rw [<-R.h.len];exact Qz,rfl⟩
  | some f =>
   have ini:=cl.ini;rw [hi]at ini
   have key:∀σ H Q,TI T A X.K (ev T cf (d+1) (.make i es)) σ H Q->TIA T A X.K (fun ρ hs=>evs (ev T cf d) ρ es hs) σ H fun vs H1=>∀x dx,H1 x=none->H1 dx=none->dx≠x ->
     spC T A X.K cf f (.ref x::(vs++[])) (upd (upd H1 dx (.own x)) x (.ins (A.c i) dx [])) (fun v H2=>v=.non/\Q (.ref x) H2) E0:=by
    rintro σ H Q ⟨α,ρ,hs,u,hs',rs,R,e,q⟩;simp only [ev]at e;obtain⟨us,h1,e1,e⟩:=Qb e;simp only [Qbh,hC,hi]at e;split at e
    case h_2=>cases e
    rename_i h2 e2;cases e;refine TIA.run rs R e1 fun α1 vs H1 E1 R1 r1 rs1=>?_;intro y dx g1 g2 g3;obtain⟨R2,E2⟩:=new R1 y dx g1 g2 g3;rw [List.append_nil]
    have at1:(α1++[y])[h1.length]?=some y:=by rw [<-R1.h.len];exact Qz
    refine QaC F (us:=.ref h1.length::us) (.cons ⟨y,at1,rfl⟩ (RUs.mono E2.pre r1)) R2 e2 fun α3 v H3 E3 R3 r3=>⟨r3,?_⟩;exact q α3 _ H3 (((E1.trans E2 R2.h)).trans E3 R3.h) R3 ⟨y,E3.pre _ _ at1,rfl⟩
   cases hF:T.fns[f]? with
   | none =>
    refine Zw ?_;rintro σ H Q ⟨α,ρ,hs,u,hs',rs,R,e,q⟩;simp only [ev]at e;obtain⟨us,h1,e1,e⟩:=Qb e;simp only [Qbh,hC,hi]at e;split at e
    case h_2=>cases e
    rename_i h2 e2;obtain⟨F',h,_⟩:=F.some _ _ _ _ e2;rw [hF]at h;cases h
   | some Fn =>
    obtain⟨fd,G,b,kp⟩:=F.ok f Fn hF;have M:Mk X.K (A.c i) (A.f f):=⟨cl.mks,ini.1,ini.2,cl.kp⟩
    cases args with
    | nil =>
     have ee:es=[]:=by
      have:=QC ha;simpa using this
     subst ee;refine QE (Qef M G hr (QZ g hg) (g.gcl x i hx) b .nil Qae (QO hn)) fun σ H Q h=>?_;obtain⟨α,ρ,hs,us,hs',rs,R,e,q⟩:=key σ H Q h;cases e;exact q α [] H Ext.refl R .nil
    | cons a r=>exact QE (Qgd M G hr (QZ g hg) (g.gcl x i hx) b .nil Qae pa (QO hn) (Qk (Qn ha a (List.mem_cons_self ..))) (Q4 fun z hz=>Qn ha z (List.mem_cons_of_mem _ hz))) key
end
end Iv
namespace Iv
open PySem PySem.Spec PyProof.Rows L2
section
variable {X:Cx}{T:Tbl}{A:Adr}{C:Ctx}{cf:Cf}{m k:Nat}
theorem YZ{env:Env}{pos:Pos}:∀{es:List Expr},Yy es->(backTo pos (starEach es env)).all (fun x=>!x.1)=true
 | [],_=>rfl
 | e::r,h=>by
  rw [Qk (h e (List.mem_cons_self ..))];have ih:=YZ (env:=env) (pos:=pos) (es:=r) fun x hx=>h x (List.mem_cons_of_mem _ hx);unfold backTo at ih ⊢;rw [List.map_cons,List.all_cons,ih];rfl
theorem QgY{env:Env}{pos:Pos}{args:List Expr}(hn:Yy args)(hl:args.length<29):methodCallForm (args.length+([]:List Keyword).length) (backTo pos (starEach args env)) (backToKw pos (keywordEach [] env))=true:=by
 unfold methodCallForm;rw [YZ hn]
 have:(args.length+([]:List Keyword).length+(if(backToKw pos (keywordEach [] env)).isEmpty then 0 else 1) < 30):=by
  simp only [List.length_nil];split<;>omega
 simp only [decide_eq_true this,Bool.and_true,Bool.true_and];rfl
theorem Qgx{o:Expr}{x:Str}{p q:Pos}{args:List Expr}{env:Env}(h1:Zs o=true)(h2:(p.endLine==q.line)=true)(h3:args.length<29)(h4:Yy args):
  eval (.Call (.Attribute o x p) args [] q) env=(do
   let ov <-eval o env
   standAt p.atName
   let (f,first) <-holding [ov] (getMethod ov x (do return (<-importBound o env).getD true))
   callWith q f first (backTo q (starEach args env)) (backToKw q (keywordEach [] env))):=by
 rw [PySem.arm_eval_Call,Zh h1];unfold methodCall;rw [QgY h4 h3];unfold calleeOf methodCallPos;rw [h2];rfl
theorem RF.none_of{α:List Addr}{x:Str}(hx:x∉T.fns'):∀{fs:List (Nat×U)} {fv:List (Str×V)},RF T A α fs fv->fv.lookup x=none
 | _,_,.nil=>rfl
 | _,_,.cons (a:=p) (b:=q) r t=>by
  obtain⟨qx,qv⟩:=q;rw [List.lookup_cons]
  have n2:(x==qx)=false:=by
   rw [beq_eq_false_iff_ne];rintro rfl;exact hx (List.mem_of_getElem? r.1)
  rw [n2];exact RF.none_of hx t
theorem Qbc{i f:Nat}{u:U}{hs:Hs}(h:Qer T i u hs=some f):∃n c fs Cl,u=.ref n/\hs[n]?=some (.ins c fs)/\T.cls[c]?=some Cl/\Cl.meths.lookup i=some f:=by
 cases u with
 | ref n =>
  simp only [Qer]at h;split at h
  ·rename_i c fs e;split at h
   ·rename_i Cl e2;exact⟨n,c,fs,Cl,rfl,e,e2,h⟩
   ·cases h
  ·cases h
 | _=>simp [Qer]at h
theorem QhN{o:Expr}{x:Str}{args:List Expr}{p q:Pos}{i d:Nat}{o':E}{es:List E}(g:GX T A C X)(F:Fc X T A cf k)(hr:Room k X.A)(S:Snd T A C X cf m)(h1:Zs o=true)(h2:(p.endLine==q.line)=true)(h3:args.length<29)
  (hx:idx x C.T.mns=some i) (ho:Qh m C o=some o') (ha:compA m C args=some es):PE X (.Call (.Attribute o x p) args [] q) (TI T A X.K (ev T cf (d+1) (.meth i o' es))):=by
 intro pins s σ H Q I hw;obtain⟨α,ρ,hs,u,hs',rs,R,e,q'⟩:=hw;simp only [ev]at e;obtain⟨u1,h1',e1,e⟩:=Qb e;split at e
 case h_2=>cases e
 rename_i f hf;obtain⟨us,h2',e2,e⟩:=Qb e
 have hx':T.mns[i]?=some x:=by rw [<-g.CT];exact QP hx
 have hns:=Qn ha;refine PySem.W.methodCall_KW (thn (S.e d o o' ho pins s σ H (fun v H1=>∃α1,Ext α α1 H H1/\Rep T A X.K α1 h1' H1/\RU A α1 u1 v/\RS A α1 ρ σ) I (TI.run rs R e1 fun α1 v H1 E1 R1 r1 rs1=>⟨α1,E1,R1,r1,rs1⟩)) fun ov s1 ⟨v,H1,I1,rv,α1,E1,R1,r1,rs1⟩=>?_) (Qgx h1 h2 h3 hns);obtain⟨n,c,fs,Cl,rfl,eo,hC,hf⟩:=Qbc hf;obtain⟨pa',hpa,rfl⟩:=r1;cases(show ov=_ from rv);obtain⟨dx,fv,q1,rf,lc⟩:=R1.h.ob n pa' _ hpa eo;have cl:=g.txt.cl c Cl hC;obtain⟨x',hx2,hm⟩:=cl.me i f hf;have ex:x=x':=Option.some.inj (hx'.symm.trans hx2);subst ex;have nx:x∉T.fns':=fun z=>g.txt.fm x z (List.mem_of_getElem? hx');obtain⟨Fn,hF,_⟩:=F.some _ _ _ _ e;obtain⟨fd,G,b,kp⟩:=F.ok f Fn hF;refine Qbk I1 q1 cl.cls hm (RF.none_of nx rf) ?_
 have fin:∀(s2:Shared) (H2:Hp) (α2:List Addr) (vs:List V) (ws:List Value),Inv X pins σ H2 s2->Ext α1 α2 H1 H2->Rep T A X.K α2 h2' H2->RUs A α2 us vs->Vals vs ws ->
   wpAny (model X.prog X.w) X.A (call (.ref (A.f f)) (.ref pa'::ws)) (EP X pins σ Q) X.xe s2:=by
  intro s2 H2 α2 vs ws I2 E2 R2 r2 rw';refine QbM (us:=.ref pa'::ws) (vs:=.ref pa'::vs) G hr b .nil Qae I2 (.cons rfl rw') ?_;rw [List.append_nil];exact QaC F (us:=.ref n::us) (.cons ⟨pa',E2.pre _ _ hpa,rfl⟩ r2) R2 e fun α3 v H3 E3 R3 r3=>q' α3 v H3 ((E1.trans E2 R2.h).trans E3 R3.h) R3 r3
 cases args with
 | nil =>
  have ee:es=[]:=by
   have:=QC ha;simpa using this
  subst ee;cases e2
  exact PySem.W.callWith_K0 (first:=[.ref pa']) I1.kIn hm.kp (fin s1 H1 α1 [] [] I1 Ext.refl R1 .nil .nil)
 | cons a r =>
  refine PySem.W.callWith_K (first:=[.ref pa']) (h₀:=X.base) I.ok.mod.kin hm.kp (thn (S.a d (a::r) es ha q pins s1 σ H1 (fun vs H2=>∃α2,Ext α1 α2 H1 H2/\Rep T A X.K α2 h2' H2/\RUs A α2 us vs) I1 (TIA.run rs1 R1 e2 fun α2 vs H2 E2 R2 r2 rs2=>⟨α2,E2,R2,r2⟩)) fun ws s2 ⟨vs,H2,I2,rw',α2,E2,R2,r2⟩=>⟨I2.kIn,?_⟩)
   (Qk (hns a (List.mem_cons_self ..))) (Q4 fun z hz=>hns z (List.mem_cons_of_mem _ hz))
  exact fin s2 H2 α2 vs ws I2 E2 R2 r2 rw'
theorem Qi2{env:Env}{pos:Pos}{e:Expr}{es:List Expr}(hn:Yy (e::es))(hl:(e::es).length<29):((backTo pos (starEach (e::es) env)).all (fun x=>!x.1)&&(backToKw pos (keywordEach [] env)).all (fun x=>x.1.isSome)
   && decide ((e::es).length+([]:List Keyword).length+(if([]:List Keyword).isEmpty then 0 else 1) < 30))=true:=by
 rw [YZ hn]
 have:(e::es).length+([]:List Keyword).length+(if([]:List Keyword).isEmpty then 0 else 1) < 30:=by
  simp only [List.length_nil,List.isEmpty_nil,if_true];omega
 rw [decide_eq_true this];rfl
theorem Qg6{o:Expr}{x:Str}{args:List Expr}{p q:Pos}{d:Nat}{o':E}{es:List E}{b:Bm}{id ty:String}(S:Snd T A C X cf m)(B:BmS X T A b id)(pa:PlainAttrs ty)(slot:Slot ty x id)(hty:typeOf (.builtin id)=pure (.type "method_descriptor"))
  (ty:∀{u:U} {hs:Hs} {α:List Addr} {v:V} {H:Hp},Qjq b u hs=true->RU A α u v->Rep T A X.K α hs H->L2.tyV X.K ty v H) (h1:Zs o=true) (h2:(p.endLine==q.line)=true) (h3:args.length<29)
  (ho:Qh m C o=some o') (ha:compA m C args=some es):PE X (.Call (.Attribute o x p) args [] q) (TI T A X.K (ev T cf (d+1) (.bm b o' es))):=by
 obtain⟨r,hm,hB⟩:=B;have hns:=Qn ha
 cases args with
 | nil =>
  have ee:es=[]:=by
   have:=QC ha;simpa using this
  subst ee;refine QE (Qip pa slot hty hm (S.e d o o' ho) (Zh h1) h2) ?_;rintro σ H Q ⟨α,ρ,hs,u,hs',rs,R,e,q⟩;simp only [ev,evs]at e;obtain⟨u1,h1',e1,e⟩:=Qb e;split at e
  case isFalse=>cases e
  rename_i il;obtain⟨us,h2',e2,e⟩:=Qb e;cases e2;exact TI.run rs R e1 fun α1 v H1 E1 R1 r1 rs1=>⟨ty il r1 R1,hB e r1 .nil R1 fun α2 v2 H2 E2 R2 r2=>q α2 v2 H2 (E1.trans E2 R2.h) R2 r2⟩
 | cons a t =>
  refine QE (Qke pa slot hty hm (S.e d o o' ho) (S.a d (a::t) es ha) (Zh h1) (Qi2 hns h3) h2 (Qk (hns a (List.mem_cons_self ..))) (Q4 fun z hz=>hns z (List.mem_cons_of_mem _ hz))) ?_;rintro σ H Q ⟨α,ρ,hs,u,hs',rs,R,e,q⟩;simp only [ev]at e;obtain⟨u1,h1',e1,e⟩:=Qb e;split at e
  case isFalse=>cases e
  rename_i il;obtain⟨us,h2',e2,e⟩:=Qb e;exact TI.run rs R e1 fun α1 v H1 E1 R1 r1 rs1=>⟨ty il r1 R1,TIA.run rs1 R1 e2 fun α2 vs H2 E2 R2 r2 rs2=>hB e (r1.mono E2.pre) r2 R2 fun α3 v2 H3 E3 R3 r3=>q α3 v2 H3 ((E1.trans E2 R2.h).trans E3 R3.h) R3 r3⟩
noncomputable def kdB:Bm->String
 | .setdef=>"dict"
 | .get=>"dict"
 | .update=>"dict"
 | .join=>"str"
 | .split=>"str"
 | .find=>"str"
 | .index=>"str"
 | _=>"list"
theorem Qh1{b:Bm}{u:U}{hs:Hs}{α:List Addr}{v:V}{H:Hp}(e:Qjq b u hs=true)(r:RU A α u v)(R:Rep T A X.K α hs H):L2.tyV X.K (kdB b) v H:=by
 cases u with
 | ref n =>
  obtain⟨a,ha,rfl⟩:=r;simp only [Qjq]at e;split at e
  ·rename_i xs eo;obtain⟨vs,q,_⟩:=R.h.ob n a _ ha eo
   have:kdB b="list":=by cases b<;>first | rfl | cases e
   rw [this];exact .inl ⟨rfl,vs,SqL.of q⟩
  ·rename_i kvs eo;obtain⟨kv,q,_⟩:=R.h.ob n a _ ha eo
   have:kdB b="dict":=by cases b<;>first | rfl | cases e
   rw [this];exact .inr (.inr (.inl ⟨rfl,.inl ⟨kv,q⟩⟩))
  ·cases e
 | str x =>
  cases(show v=_ from r)
  have:kdB b="str":=by cases b<;>first | rfl | cases e
  exact this
 | _=>cases e
theorem Qm5{o:Expr}{x:Str}{args:List Expr}{p q:Pos}{d:Nat}{o':E}{es:List E}{b:Bm}(hu:X.A.units+1<cLine)(tx:Txt T A X.K X.mg)(S:Snd T A C X cf m)(hb:Qlp x=some b)(h1:Zs o=true)(h2:(p.endLine==q.line)=true)(h3:args.length<29)
  (ho:Qh m C o=some o') (ha:compA m C args=some es):PE X (.Call (.Attribute o x p) args [] q) (TI T A X.K (ev T cf (d+1) (.bm b o' es))):=by
 unfold Qlp at hb;split at hb
 ·rename_i e;subst e;cases hb;exact Qg6 S Qbq PySem.F.plainAttrs_list PySem.F.slot_list_append PySem.F.type_list_append (fun e r R=>Qh1 e r R) h1 h2 h3 ho ha
 unfold Qjd at hb
 ·cases hb
theorem Yu{args:List Expr}{d:Nat}{es:List E}{b:Bi}{fv:Value}{r:List V->Hp->VK->Prop}{e0:Expr}(hB:∀{α:List Addr} {us:List U} {u':U} {hs hs':Hs} {vs:List V} {H:Hp} {Q:VK},biU T b us hs=some (u',hs')->RUs A α us vs->Rep T A X.K α hs H ->
   (∀α' v' H',Ext α α' H H'->Rep T A X.K α' hs' H'->RU A α' u' v'->Q v' H')->r vs H Q)
  (h:PE X e0 (tCB r (TIA T A X.K (fun ρ hs=>evs (ev T cf d) ρ es hs)))):PE X e0 (TI T A X.K (ev T cf (d+1) (.bi b es))):=by
 refine QE h ?_;rintro σ H Q ⟨α,ρ,hs,u,hs',rs,R,e,q⟩;simp only [ev]at e;obtain⟨us,h1,e1,e⟩:=Qb e;exact TIA.run rs R e1 fun α1 vs H1 E1 R1 r1 rs1=>hB e r1 R1 fun α2 v2 H2 E2 R2 r2=>q α2 v2 H2 (E1.trans E2 R2.h) R2 r2
theorem Qg8{b:Bi}{hs:Hs}:biU T b [] hs=none:=by cases b<;>rfl
theorem Qm6{x:Str}{args:List Expr}{p pos:Pos}{d:Nat}{es:List E}{b:Bi}(g:GX T A C X)(S:Snd T A C X cf m)(hg:ZQ C x=true)(hn:x≠"__debug__") (hn2:x≠"__name__") (hx:Qlr C x=some b) (ha:compA m C args=some es):
  PE X (.Call (.Name x p) args [] pos) (TI T A X.K (ev T cf (d+1) (.bi b es))):=by
 have hns:=Qn ha
 cases args with
 | nil =>
  refine Zw ?_;rintro σ H Q ⟨α,ρ,hs,u,hs',rs,R,e,q⟩
  have ee:es=[]:=by
   have:=QC ha;simpa using this
  subst ee;simp [ev,evs,bd,Qg8]at e
 | cons a t =>
  unfold Qlr at hx;split at hx
  ·cases hx
  split at hx
  ·cases hx
  rename_i hl;have hm:X.mg x=none:=g.blt x hl;have pa:=S.a d (a::t) es ha;have st:=Qk (env:=X.env) (es:=t) (hns a (List.mem_cons_self ..));have sa:=Q4 (env:=X.env) (pos:=pos) (es:=t) fun z hz=>hns z (List.mem_cons_of_mem _ hz);split at hx
  ·rename_i e;subst e;cases hx;obtain⟨r,hc,hB⟩:=Qha (X:=X) (A:=A) g.txt
   exact Yu (fv:=.builtin "len") (args:=[]) hB (QaO hc (QZ g hg) hm (by decide +kernel) pa hn2 (QO hn) st sa)
  split at hx
  ·rename_i e;subst e;cases hx;obtain⟨r,hc,hB⟩:=Qhb (X:=X) (A:=A) (T:=T)
   exact Yu (fv:=.none) (args:=[]) hB (ZJ hc (QZ g hg) hm (by decide +kernel) pa hn2 (QO hn) st sa)
  split at hx
  ·rename_i e;subst e;cases hx;obtain⟨r,hc,hB⟩:=Qg9 (X:=X) (A:=A) (T:=T)
   exact Yu (fv:=.none) (args:=[]) hB (ZJ hc (QZ g hg) hm (by decide +kernel) pa hn2 (QO hn) st sa)
  split at hx
  ·rename_i e;subst e;cases hx;obtain⟨r,hc,hB⟩:=QcW (X:=X) (A:=A) (T:=T)
   exact Yu (fv:=.none) (args:=[]) hB (ZJ hc (QZ g hg) hm (by decide +kernel) pa hn2 (QO hn) st sa)
  split at hx
  ·rename_i e;subst e;cases hx;obtain⟨r,hc,hB⟩:=QeY (X:=X) (A:=A) g.txt
   exact Yu (fv:=.none) (args:=[]) hB (ZJ hc (QZ g hg) hm (by decide +kernel) pa hn2 (QO hn) st sa)
  unfold Qje at hx
  ·cases hx
theorem Qm4 {t : Str} {ty : Ty} {p : Pos} (g : GX T A C X) (hg : ZQ C t = true) (hn : t ≠ "__debug__") (hn2 : t ≠ "__name__") (h : Qjn C t = some ty) : ∃ v, PE X (.Name t p) (tC v) /\ QkF v = some (tyW A ty) := by
 unfold Qjn at h;split at h
 ·rename_i i e;cases h;exact⟨.ref (A.c i),Qac (QZ g hg) (g.gcl t i e) rfl (QO hn),rfl⟩
 ·cases h
 ·split at h
  ·cases h
  rename_i e;have hm:X.mg t=none:=g.blt t e;have fin:∀n:String,bootBuiltins t=some (.type n)->PE X (.Name t p) (tC (.ty n)):=fun n hb=>Qgh (QZ g hg) hm hb rfl hn2 (QO hn);split at h
  ·rename_i e;subst e;cases h;exact⟨_,fin "int" (by decide +kernel),rfl⟩
  split at h
  ·rename_i e;subst e;cases h;exact⟨_,fin "str" (by decide +kernel),rfl⟩
  split at h
  ·rename_i e;subst e;cases h;exact⟨_,fin "bool" (by decide +kernel),rfl⟩
  split at h
  ·rename_i e;subst e;cases h;exact⟨_,fin "list" (by decide +kernel),rfl⟩
  split at h
  ·rename_i e;subst e;cases h;exact⟨_,fin "tuple" (by decide +kernel),rfl⟩
  split at h
  ·rename_i e;subst e;cases h;exact⟨_,fin "dict" (by decide +kernel),rfl⟩
  split at h
  ·rename_i e;subst e;cases h;exact⟨_,fin "ValueError" (by decide +kernel),rfl⟩
  ·cases h
theorem QjW{a:Expr}{t:Str}{ty:Ty}{a':E}{p p1 pos:Pos}{d:Nat}(g:GX T A C X)(S:Snd T A C X cf m)(hi:ZQ C "isinstance"=true) (hl:¬C.bl.contains ("isinstance":Str)=false) (hg:ZQ C t=true) (hn:t≠"__debug__") (hn2:t≠"__name__") (h:Qjn C t=some ty) (ha:Qh m C a=some a'):
  PE X (.Call (.Name "isinstance" p) [a,.Name t p1] [] pos) (TI T A X.K (ev T cf (d+1) (.isi a' ty))):=by
 obtain⟨v,hv,hc⟩:=Qm4 (p:=p1) g hg hn hn2 h;have s1:starEach [a,.Name t p1] X.env=(false,eval a X.env)::starEach [.Name t p1] X.env:=Qk (Qv ha)
 refine QE (QaO QeX (QZ g hi) (g.blt _ hl) (by decide +kernel) (Zr (S.e d a a' ha) (Zr hv Jr) s1) (by decide) (by decide) s1 rfl) ?_
 rintro σ H Q ⟨α,ρ,hs,u,hs',rs,R,e,q⟩;simp only [ev]at e;obtain⟨u1,h1,e1,e⟩:=Qb e;simp only [Option.map_eq_some_iff]at e;obtain⟨b,e2,e⟩:=e;cases e;refine TI.run rs R e1 fun α1 x H1 E1 R1 r1 rs1=>?_;obtain⟨tv,h1,h2⟩:=QiT g.txt e2 r1 R1;exact⟨x,v,_,tv,b,rfl,hc,h1,h2,q α1 _ H1 E1 R1 rfl⟩
end
end Iv
namespace L2
open PySem PySem.Spec PyProof.Rows
open Sem (wp)
structure Nx(prog:Program)(w:World)(it l:Addr)(P:Nat->Heap->Prop)(L:Array Value->Heap->Prop):Prop where
 item:∀(A:Around) (E:Value->Shared->Prop) (s:Shared) (k:Nat) (xs:Array Value) (x:Value) (Q:Value->Shared->Prop),P k s.heap->L xs s.heap->xs[k]?=some x->(∀h',P (k+1) h'->Heap.SameBut it s.heap h'->Q x { s with heap:=h' }) ->
  wpAny (model prog w) A (Builtin.SmallTypes.nextOf (.ref it)) Q E s
 done:∀(A:Around) (E:Value->Shared->Prop) (s:Shared) (k:Nat) (xs:Array Value) (Q:Value->Shared->Prop),A.handled=none->P k s.heap->L xs s.heap->xs[k]?=none ->
  (∀ h' e, Heap.ExtBut it s.heap h' -> (∃ o, h'.get? e = some o /\ o.cls = .type "StopIteration") -> E (.ref e) { s with heap := h' }) -> wpAny (model prog w) A (Builtin.SmallTypes.nextOf (.ref it)) Q E s
 keepP:∀k h h',P k h->(∀o,h.get? it=some o->h'.get? it=some o)->P k h'
 keepL:∀xs h h',L xs h->(∀o,h.get? l=some o->h'.get? l=some o)->L xs h'
 obj:∀k h,P k h->∃o vs,h.get? it=some o/\o.data=.fields vs
theorem Qgs(prog:Program)(w:World)(it l:Addr):Nx prog w it l (fun k h=>h.IsListIter it l k) (fun xs h=>h.IsList l xs) where
 item:=fun A E s k xs x Q p q e h=>wpAny_nextOf_list_item p q e h
 done:=fun A E s k xs Q hh p q e h=>wpAny_nextOf_list_end hh p q e h
 keepP:=fun k h h' p f=>p.at fun o e=>f o e
 keepL:=fun xs h h' p f=>p.at fun o e=>f o e
 obj:=fun k h ⟨o,e,_,d⟩=>⟨o,_,e,d⟩
section
variable {prog:Program}{w:World}{A:Around}{E:Value->Shared->Prop}{s:Shared}
theorem ZU{it t:Addr}{i:Nat}{items:Array Value}{x:Value}{Q:Value->Shared->Prop}(hit:s.heap.IsTupleIter it t i)
  (ht:s.heap.IsTuple t items) (hx:items[i]?=some x) (hQ:∀h',h'.IsTupleIter it t (i+1)->Heap.SameBut it s.heap h'->Q x { s with heap:=h' }):
  wpAny (model prog w) A (Builtin.SmallTypes.nextOf (.ref it)) Q E s:=by
 obtain⟨o,ho,hc,hd⟩:=id hit;obtain⟨ol,hol,_,nl,hdl⟩:=ht;unfold Builtin.SmallTypes.nextOf
 refine wpAny_bind (wpAny_callSpecial?_slot (name:=Str.ofString "__next__") hit.typeIs F.slot_tuple_iterator_next
  (wpAny_call_entry F.slot_tuple_iterator_next hit.typeIs F.entry_tuple_iterator_next ?_ (F.args_tuple_iterator_next_1 _)))
 show wpAny _ _ (field (.ref it) 0 >>= _) _ _ s;refine wpAny_bind (wpAny_field ho hd (x:=.ref t) rfl ?_);show wpAny _ _ (if(Value.ref t==Value.none)=true then _ else _) _ _ s;rw [if_neg (show ¬((Value.ref t==Value.none)=true)from Bool.false_ne_true)];show wpAny _ _ (field (.ref it) 1 >>= _) _ _ s;refine wpAny_bind (wpAny_field ho hd (x:=.int i 0) rfl ?_);show wpAny _ _ (seqItems? (.ref t) >>= _) _ _ s;refine wpAny_bind (wpAny_seqItems hol hdl ?_);simp only [Int.toNat_natCast,hx]
 refine wpAny_bind (wpAny_setField ho hd (by simp) (wpAny_pure ⟨x,rfl,wpAny_pure (hQ _ ?_ (Heap.SameBut.update ..))⟩))
 exact⟨_,Heap.get?_update_self _ ho (Obj.isFreed_of_fields (Obj.data_mapFields hd _)),(Obj.cls_mapFields ..).trans hc,by
  rw [Obj.data_mapFields hd];simp [rawInt]⟩
theorem ZZ{it t:Addr}{i:Nat}{items:Array Value}{Q:Value->Shared->Prop}(hh:A.handled=none)
  (hit:s.heap.IsTupleIter it t i) (ht:s.heap.IsTuple t items) (hx:items[i]?=none)
  (hE : ∀ h' e, Heap.ExtBut it s.heap h' -> (∃ o, h'.get? e = some o /\ o.cls = .type "StopIteration") -> E (.ref e) { s with heap := h' }) :
  wpAny (model prog w) A (Builtin.SmallTypes.nextOf (.ref it)) Q E s:=by
 obtain⟨o,ho,hc,hd⟩:=id hit;obtain⟨ol,hol,_,nl,hdl⟩:=ht;unfold Builtin.SmallTypes.nextOf
 refine wpAny_bind (wpAny_callSpecial?_slot (name:=Str.ofString "__next__") hit.typeIs F.slot_tuple_iterator_next
  (wpAny_call_entry F.slot_tuple_iterator_next hit.typeIs F.entry_tuple_iterator_next ?_ (F.args_tuple_iterator_next_1 _)))
 show wpAny _ _ (field (.ref it) 0 >>= _) _ _ s;refine wpAny_bind (wpAny_field ho hd (x:=.ref t) rfl ?_);show wpAny _ _ (if(Value.ref t==Value.none)=true then _ else _) _ _ s;rw [if_neg (show ¬((Value.ref t==Value.none)=true)from Bool.false_ne_true)];show wpAny _ _ (field (.ref it) 1 >>= _) _ _ s;refine wpAny_bind (wpAny_field ho hd (x:=.int i 0) rfl ?_);show wpAny _ _ (seqItems? (.ref t) >>= _) _ _ s;refine wpAny_bind (wpAny_seqItems hol hdl ?_);simp only [Int.toNat_natCast,hx]
 refine wpAny_bind (wpAny_rule (wpAny_bind (wpAny_setField ho hd (by simp) ?_)))
 show wpAny _ _ (newExc (.type "StopIteration") [] >>= _) _ _ _;refine wpAny_bind ?_;simp only [newExc,newTuple]
 refine wpAny_bind (wpAny_newObj_type ?_ (by size_fits))
 refine wpAny_bind (m:=firstArgMember _ _) (wpAny_of_eq (a:=Value.none) (by first | rfl | (simp only [firstArgMember];rfl)) ?_)
 refine wpAny_newObj_type ?_ (by size_fits)
 simp only [raiseNew];refine wpAny_bind (wpAny_handled ?_)
 first | rw [show A.in1.handled=none from hh] | rw [hh]
 refine wpAny_bind (wpAny_pure (wpAny_throw ?_));exact hE _ _ (((Heap.SameBut.update ..).extBut.push _).push _) ⟨_,Heap.get?_push_size _ rfl,rfl⟩
end
theorem Qeo(prog:Program)(w:World)(it l:Addr):Nx prog w it l (fun k h=>h.IsTupleIter it l k) (fun xs h=>h.IsTuple l xs) where
 item:=fun A E s k xs x Q p q e h=>ZU p q e h
 done:=fun A E s k xs Q hh p q e h=>ZZ hh p q e h
 keepP:=fun k h h' p f=>p.at fun o e=>f o e
 keepL:=fun xs h h' p f=>p.at fun o e=>f o e
 obj:=fun k h ⟨o,e,_,d⟩=>⟨o,_,e,d⟩
section
variable {prog:Program}{w:World}{A:Around}{E:Value->Shared->Prop}{s:Shared}{z TI TO i1 i2 l1 l2:Addr}{P1 P2:Nat->Heap->Prop}{L1 L2:Array Value->Heap->Prop}
theorem Qbt{k1 k2:Nat}{xs ys:Array Value}{x y a b:Value}{Q:Value->Shared->Prop}(N1:Nx prog w i1 l1 P1 L1)(N2:Nx prog w i2 l2 P2 L2)(D:ZipApart z TI TO i1 i2 l1 l2)
  (hz:IsZip s.heap z TI TO .none) (hTI:IsPair s.heap TI (.ref i1) (.ref i2)) (hTO:IsPair s.heap TO a b)
  (h1:P1 k1 s.heap) (h2:P2 k2 s.heap) (hl1:L1 xs s.heap) (hl2:L2 ys s.heap) (hx:xs[k1]?=some x) (hy:ys[k2]?=some y)
  (hQ:∀h',IsZip h' z TI TO (rawInt s.heap.objs.size)->IsPair h' TO x y->P1 (k1+1) h'->P2 (k2+1) h'->IsPair h' s.heap.objs.size x y->h'.objs.size=s.heap.objs.size+1 ->
   (∀c o,c≠z->c≠TO->c≠i1->c≠i2->s.heap.get? c=some o->h'.get? c=some o)->Q (.ref s.heap.objs.size) { s with heap:=h' }):
  wpAny (model prog w) A (Builtin.«zip.__next__» ⟨[.ref z],[]⟩) (fun fin s'=>∃v,fin=.done (.ret v)/\Q v s') E s:=by
 have kP1:∀{k:Nat} {h h':Heap} {c:Addr},P1 k h->Heap.SameBut c h h'->i1≠c->P1 k h':=fun {k h h' c} p sb ne=>N1.keepP k h h' p fun o e=>(sb.2 i1 ne).trans e;have kP2:∀{k:Nat} {h h':Heap} {c:Addr},P2 k h->Heap.SameBut c h h'->i2≠c->P2 k h':=fun {k h h' c} p sb ne=>N2.keepP k h h' p fun o e=>(sb.2 i2 ne).trans e;have kL1:∀{h h':Heap} {c:Addr},L1 xs h->Heap.SameBut c h h'->l1≠c->L1 xs h':=fun {h h' c} p sb ne=>N1.keepL xs h h' p fun o e=>(sb.2 l1 ne).trans e;have kL2:∀{h h':Heap} {c:Addr},L2 ys h->Heap.SameBut c h h'->l2≠c->L2 ys h':=fun {h h' c} p sb ne=>N2.keepL ys h h' p fun o e=>(sb.2 l2 ne).trans e;show wpAny _ _ (field (.ref z) 2 >>= _) _ _ _;refine wpAny_bind (wpAny_field hz rfl (x:=.bool false) rfl ?_);show wpAny _ _ (field (.ref z) 3 >>= _) _ _ _;refine wpAny_bind (wpAny_field hz rfl (x:=.ref TI) rfl ?_);refine wpAny_bind (wpAny_seqItems hTI rfl ?_);show wpAny _ _ (Builtin.SmallTypes.ownedTupleIsFree (.ref z) >>= _) _ _ _;refine wpAny_bind ?_;unfold Builtin.SmallTypes.ownedTupleIsFree;refine wpAny_bind (wpAny_field hz rfl (x:=.none) rfl (wpAny_pure ?_));simp only [if_true];refine wpAny_bind (wpAny_rule ?_);refine wpAny_bind (wpAny_field hz rfl (x:=.ref TO) rfl ?_)
 refine wpAny_bind (wpAny_setField_rec hz (by simp) fun h₁ hz₁ hs₁=>?_)
 replace hz₁:IsZip h₁ z TI TO .ellipsis:=hz₁;refine wpAny_bind ?_;simp only [List.zipIdx_cons,List.zipIdx_nil,List.forIn_cons,List.forIn_nil];refine wpAny_bind (wpAny_bind (wpAny_onRaise ?_));show wpAny _ _ (Builtin.SmallTypes.nextOf (.ref i1) >>= _) _ _ _;refine wpAny_bind (N1.item _ _ _ _ _ _ _ (kP1 h1 hs₁ D.i1z) (kL1 hl1 hs₁ D.l1z) hx fun h₂ h1₂ hs₂=>wpAny_pure ?_);have hTO₂:IsPair h₂ TO a b:=hs₂.extBut _ _ D.TOi1 (hs₁.extBut _ _ D.TOz hTO);refine wpAny_bind (wpAny_seqItems hTO₂ rfl ?_);refine wpAny_bind (wpAny_updateSeq_pair hTO₂ fun h₃ hTO₃ hs₃=>?_);replace hTO₃:IsPair h₃ TO x b:=hTO₃;refine wpAny_bind (wpAny_letGo (wpAny_pure ?_));refine wpAny_bind (wpAny_bind (wpAny_onRaise ?_));show wpAny _ _ (Builtin.SmallTypes.nextOf (.ref i2) >>= _) _ _ _;refine wpAny_bind (N2.item _ _ _ _ _ _ _ (kP2 (kP2 (kP2 h2 hs₁ D.i2z) hs₂ D.i12.symm) hs₃ D.TOi2.symm) (kL2 (kL2 (kL2 hl2 hs₁ D.l2z) hs₂ D.l2i1) hs₃ D.l2TO) hy fun h₄ h2₄ hs₄=>wpAny_pure ?_);have hTO₄:IsPair h₄ TO x b:=hs₄.extBut _ _ D.TOi2 hTO₃;refine wpAny_bind (wpAny_seqItems hTO₄ rfl ?_);refine wpAny_bind (wpAny_updateSeq_pair hTO₄ fun h₅ hTO₅ hs₅=>?_);replace hTO₅:IsPair h₅ TO x y:=hTO₅;refine wpAny_bind (wpAny_letGo (wpAny_pure (wpAny_pure ?_)));refine wpAny_bind (wpAny_seqItems hTO₅ rfl ?_);refine wpAny_bind (wpAny_newTuple ?_)
 have hsz:h₅.objs.size=s.heap.objs.size:=by rw [hs₅.1,hs₄.1,hs₃.1,hs₂.1,hs₁.1]
 have hz₅:IsZip h₅ z TI TO .ellipsis:=hs₅.extBut _ _ D.TOz.symm (hs₄.extBut _ _ D.i2z.symm (hs₃.extBut _ _ D.TOz.symm (hs₂.extBut _ _ D.i1z.symm hz₁)))
 have hk₅:∀c o,c≠z->c≠TO->c≠i1->c≠i2->s.heap.get? c=some o->h₅.get? c=some o:=fun c o c1 c2 c3 c4 e =>
  hs₅.extBut _ _ c2 (hs₄.extBut _ _ c4 (hs₃.extBut _ _ c2 (hs₂.extBut _ _ c3 (hs₁.extBut _ _ c1 e))))
 have h1₅:P1 (k1+1) h₅:=kP1 (kP1 (kP1 h1₂ hs₃ D.TOi1.symm) hs₄ D.i12) hs₅ D.TOi1.symm;have h2₅:P2 (k2+1) h₅:=kP2 h2₄ hs₅ D.TOi2.symm;have hzlt:z<h₅.objs.size:=Heap.lt_size hz₅;show wpAny _ _ (Builtin.SmallTypes.ownedTupleHandOut (.ref z) (.ref h₅.objs.size) >>= _) _ _ _;refine wpAny_bind ?_;unfold Builtin.SmallTypes.ownedTupleHandOut;have hz₆:IsZip (h₅.push { cls:=.type "tuple",data:=.seq #[x,y] }) z TI TO .ellipsis:=Heap.get?_push_of_some _ hz₅
 refine wpAny_bind (wpAny_setField_rec hz₆ (by simp) fun h₇ hz₇ hs₇=>?_)
 replace hz₇:IsZip h₇ z TI TO (rawInt h₅.objs.size):=hz₇
 refine wpAny_setField_rec hz₇ (by simp) fun h₈ hz₈ hs₈=>?_
 replace hz₈:IsZip h₈ z TI TO (rawInt h₅.objs.size):=hz₈;have up:∀c o,c≠z->h₅.get? c=some o->h₈.get? c=some o:=fun c o c1 e=>hs₈.extBut _ _ c1 (hs₇.extBut _ _ c1 (Heap.get?_push_of_some _ e));have hT₈:IsPair h₈ h₅.objs.size x y:=hs₈.extBut _ _ (Nat.ne_of_gt hzlt) (hs₇.extBut _ _ (Nat.ne_of_gt hzlt) (Heap.get?_push_size _ rfl))
 have hz8:h₈.objs.size=h₅.objs.size+1:=by rw [hs₈.1,hs₇.1,Heap.size_push]
 rw [hsz]at hz₈ hT₈ hz8;refine wpAny_pure ⟨_,rfl,?_⟩;show Q (.ref h₅.objs.size) _;rw [hsz];exact hQ h₈ hz₈ (up _ _ D.TOz hTO₅) (N1.keepP _ _ _ h1₅ fun o e=>up _ o D.i1z e) (N2.keepP _ _ _ h2₅ fun o e=>up _ o D.i2z e) hT₈ hz8 fun c o c1 c2 c3 c4 e=>up c o c1 (hk₅ c o c1 c2 c3 c4 e)
theorem Qc2{k1 k2:Nat}{xs ys:Array Value}{a b:Value}{Q:Fin->Shared->Prop}(N1:Nx prog w i1 l1 P1 L1)(N2:Nx prog w i2 l2 P2 L2)(hh:A.handled=none)(D:ZipApart z TI TO i1 i2 l1 l2)
  (hz:IsZip s.heap z TI TO .none) (hTI:IsPair s.heap TI (.ref i1) (.ref i2)) (hTO:IsPair s.heap TO a b)
  (h1:P1 k1 s.heap) (h2:P2 k2 s.heap) (hl1:L1 xs s.heap) (hl2:L2 ys s.heap) (hend:xs[k1]?=none\/ys[k2]?=none)
  (hE : ∀ h' e, (∀ c o, c ≠ z -> c ≠ TO -> c ≠ i1 -> c ≠ i2 -> s.heap.get? c = some o -> h'.get? c = some o) -> (∃ o, h'.get? e = some o /\ o.cls = .type "StopIteration") -> E (.ref e) { s with heap := h' }) :
  wpAny (model prog w) A (Builtin.«zip.__next__» ⟨[.ref z],[]⟩) Q E s:=by
 have kP1:∀{k:Nat} {h h':Heap} {c:Addr},P1 k h->Heap.SameBut c h h'->i1≠c->P1 k h':=fun {k h h' c} p sb ne=>N1.keepP k h h' p fun o e=>(sb.2 i1 ne).trans e;have kP2:∀{k:Nat} {h h':Heap} {c:Addr},P2 k h->Heap.SameBut c h h'->i2≠c->P2 k h':=fun {k h h' c} p sb ne=>N2.keepP k h h' p fun o e=>(sb.2 i2 ne).trans e;have kL1:∀{h h':Heap} {c:Addr},L1 xs h->Heap.SameBut c h h'->l1≠c->L1 xs h':=fun {h h' c} p sb ne=>N1.keepL xs h h' p fun o e=>(sb.2 l1 ne).trans e;have kL2:∀{h h':Heap} {c:Addr},L2 ys h->Heap.SameBut c h h'->l2≠c->L2 ys h':=fun {h h' c} p sb ne=>N2.keepL ys h h' p fun o e=>(sb.2 l2 ne).trans e;show wpAny _ _ (field (.ref z) 2 >>= _) _ _ _;refine wpAny_bind (wpAny_field hz rfl (x:=.bool false) rfl ?_);show wpAny _ _ (field (.ref z) 3 >>= _) _ _ _;refine wpAny_bind (wpAny_field hz rfl (x:=.ref TI) rfl ?_);refine wpAny_bind (wpAny_seqItems hTI rfl ?_);show wpAny _ _ (Builtin.SmallTypes.ownedTupleIsFree (.ref z) >>= _) _ _ _;refine wpAny_bind ?_;unfold Builtin.SmallTypes.ownedTupleIsFree;refine wpAny_bind (wpAny_field hz rfl (x:=.none) rfl (wpAny_pure ?_));simp only [if_true];refine wpAny_bind (wpAny_rule ?_);refine wpAny_bind (wpAny_field hz rfl (x:=.ref TO) rfl ?_)
 refine wpAny_bind (wpAny_setField_rec hz (by simp) fun h₁ hz₁ hs₁=>?_)
 replace hz₁:IsZip h₁ z TI TO .ellipsis:=hz₁;refine wpAny_bind ?_;simp only [List.zipIdx_cons,List.zipIdx_nil,List.forIn_cons,List.forIn_nil];refine wpAny_bind (wpAny_bind (wpAny_onRaise ?_));show wpAny _ _ (Builtin.SmallTypes.nextOf (.ref i1) >>= _) _ _ _
 cases hx:xs[k1]? with
 | none =>
  refine wpAny_bind (N1.done _ _ _ _ _ _ hh (kP1 h1 hs₁ D.i1z) (kL1 hl1 hs₁ D.l1z) hx fun h₂ e hs₂ he=>?_);obtain⟨oe,hoe,hce⟩:=he;have hz₂:IsZip h₂ z TI TO .ellipsis:=hs₂ _ _ D.i1z.symm hz₁
  have hez:e≠z:=fun x=>by subst x;rw [hz₂]at hoe;cases hoe;simp at hce
  refine wpAny_setField_rec hz₂ (by simp) fun h₃ _ hs₃=>hE h₃ e (fun c o c1 _ c3 _ x=>hs₃.extBut _ _ c1 (hs₂ _ _ c3 (hs₁.extBut _ _ c1 x))) ⟨oe,hs₃.extBut _ _ hez hoe,hce⟩
 | some x =>
  have hy:ys[k2]?=none:=by rcases hend with h | h;rw [hx]at h;cases h;exact h
  refine wpAny_bind (N1.item _ _ _ _ _ _ _ (kP1 h1 hs₁ D.i1z) (kL1 hl1 hs₁ D.l1z) hx fun h₂ h1₂ hs₂=>wpAny_pure ?_);have hTO₂:IsPair h₂ TO a b:=hs₂.extBut _ _ D.TOi1 (hs₁.extBut _ _ D.TOz hTO);refine wpAny_bind (wpAny_seqItems hTO₂ rfl ?_);refine wpAny_bind (wpAny_updateSeq_pair hTO₂ fun h₃ hTO₃ hs₃=>?_);refine wpAny_bind (wpAny_letGo (wpAny_pure ?_));refine wpAny_bind (wpAny_bind (wpAny_onRaise ?_));show wpAny _ _ (Builtin.SmallTypes.nextOf (.ref i2) >>= _) _ _ _;refine wpAny_bind (N2.done _ _ _ _ _ _ hh (kP2 (kP2 (kP2 h2 hs₁ D.i2z) hs₂ D.i12.symm) hs₃ D.TOi2.symm) (kL2 (kL2 (kL2 hl2 hs₁ D.l2z) hs₂ D.l2i1) hs₃ D.l2TO) hy fun h₄ e hs₄ he=>?_);obtain⟨oe,hoe,hce⟩:=he;have hz₄:IsZip h₄ z TI TO .ellipsis:=hs₄ _ _ D.i2z.symm (hs₃.extBut _ _ D.TOz.symm (hs₂.extBut _ _ D.i1z.symm hz₁))
  have hez:e≠z:=fun x=>by subst x;rw [hz₄]at hoe;cases hoe;simp at hce
  refine wpAny_setField_rec hz₄ (by simp) fun h₅ _ hs₅=>hE h₅ e (fun c o c1 c2 c3 c4 x=>hs₅.extBut _ _ c1 (hs₄ _ _ c4 (hs₃.extBut _ _ c2 (hs₂.extBut _ _ c3 (hs₁.extBut _ _ c1 x))))) ⟨oe,hs₅.extBut _ _ hez hoe,hce⟩
theorem ZY{k1 k2:Nat}{xs ys:Array Value}{x y a b:Value}{Q:Option Value->Shared->Prop}(N1:Nx prog w i1 l1 P1 L1)(N2:Nx prog w i2 l2 P2 L2)(D:ZipApart z TI TO i1 i2 l1 l2)
  (hz:IsZip s.heap z TI TO .none) (hTI:IsPair s.heap TI (.ref i1) (.ref i2)) (hTO:IsPair s.heap TO a b)
  (h1:P1 k1 s.heap) (h2:P2 k2 s.heap) (hl1:L1 xs s.heap) (hl2:L2 ys s.heap) (hx:xs[k1]?=some x) (hy:ys[k2]?=some y)
  (hQ:∀h',IsZip h' z TI TO (rawInt s.heap.objs.size)->IsPair h' TO x y->P1 (k1+1) h'->P2 (k2+1) h'->IsPair h' s.heap.objs.size x y->h'.objs.size=s.heap.objs.size+1 ->
   (∀c o,c≠z->c≠TO->c≠i1->c≠i2->s.heap.get? c=some o->h'.get? c=some o)->Q (some (.ref s.heap.objs.size)) { s with heap:=h' }):
  wpAny (model prog w) A (pyNext (.ref z)) Q E s:=by
 have hT:s.TypeIs (.ref z) "zip":=⟨_,hz,rfl⟩;unfold pyNext
 exact wpAny_bind (wpAny_attempt (wpAny_callSpecial?_slot (name:=Str.ofString "__next__") hT F.slot_zip_next
  (wpAny_call_entry F.slot_zip_next hT F.entry_zip_next
   (Qbt N1 N2 D hz hTI hTO h1 h2 hl1 hl2 hx hy fun h' a1 a2 a3 a4 a5 a6 a7=>wpAny_pure (hQ h' a1 a2 a3 a4 a5 a6 a7)) (F.args_zip_next_1 _))))
theorem Yh{k1 k2:Nat}{xs ys:Array Value}{a b:Value}{Q:Option Value->Shared->Prop}(N1:Nx prog w i1 l1 P1 L1)(N2:Nx prog w i2 l2 P2 L2)(hh:A.handled=none)(D:ZipApart z TI TO i1 i2 l1 l2)
  (hz:IsZip s.heap z TI TO .none) (hTI:IsPair s.heap TI (.ref i1) (.ref i2)) (hTO:IsPair s.heap TO a b)
  (h1:P1 k1 s.heap) (h2:P2 k2 s.heap) (hl1:L1 xs s.heap) (hl2:L2 ys s.heap) (hend:xs[k1]?=none\/ys[k2]?=none)
  (hQ:∀h',(∀c o,c≠z->c≠TO->c≠i1->c≠i2->s.heap.get? c=some o->h'.get? c=some o)->Q none { s with heap:=h' }):wpAny (model prog w) A (pyNext (.ref z)) Q E s:=by
 have hT:s.TypeIs (.ref z) "zip":=⟨_,hz,rfl⟩;unfold pyNext
 refine wpAny_bind (wpAny_attempt (wpAny_callSpecial?_slot (name:=Str.ofString "__next__") hT F.slot_zip_next
  (wpAny_call_entry F.slot_zip_next hT F.entry_zip_next (Qc2 N1 N2 hh D hz hTI hTO h1 h2 hl1 hl2 hend fun h' e hk he=>?_) (F.args_zip_next_1 _))))
 obtain⟨o,ho,hc⟩:=he;refine wpAny_bind (wpAny_isInstance (T:="StopIteration") (b:=true) ⟨o,ho,hc⟩ isSubtype_stop ?_);exact wpAny_pure (hQ _ hk)
end
end L2
namespace L2
open PySem PySem.Spec PyProof.Rows
section
variable {X:Cx}{pins:List (Addr×Obj)}{σ:St}{H:Hp}{s:Shared}{h':Heap}
theorem Inv.turnedLay{t':Nat}{ch:List Addr}{p:Addr}{vs:List V}{its:List Value}(I:Inv X pins σ H s)(hf:∀b∈ch,Qay X pins H b)(k:∀b o,b∉ch->s.heap.get? b=some o->h'.get? b=some o)
  (there:∀b o,b∈ch->s.heap.get? b=some o->∃o',h'.get? b=some o')
  (hp:s.heap.objs.size<=p) (hv:Vals vs its) (ht:IsTup h' p its.toArray) (hz:vs.length<=sizeLine):Inv X pins σ (upd H p (.tup vs)) { s with heap:=h',toks:=t' }:=by
 have hn:H p=none:=I.hok.fresh hp
 have ne:∀b o,s.heap.get? b=some o->b≠p:=fun b o e z=>by
  have:=Heap.lt_size e;rw [z]at this;exact absurd (Nat.lt_of_lt_of_le this hp) (Nat.lt_irrefl _)
 have nch:∀b u,H b=some u->b∉ch:=fun b u e z=>by rw [(hf b z).1]at e;cases e
 have up:∀b u,H b=some u->upd H p (.tup vs) b=some u:=fun b u e=>by rw [Qe (Q8 e hn)];exact e
 refine I.step (g':=s.gens) (d':=s.drawn) (ch:=ch) (fun b hb=>?_) (fun b o _ _ hc e _=>k b o hc e) (fun b o _ _ hc e _=>⟨o.slots,k b o hc e⟩) (fun b o _ e n=>by rw [Qe (ne b o e)];exact n)
  (fun b o hc e=>⟨o,k b o hc e⟩) (fun b xs e=>up b _ e) (fun b o u e=>up b _ e) (fun b ps e=>⟨#[],by rw [up b _ e];simp⟩) (fun m hm=>?_) (fun b u e=>?_) I.bare
 ·obtain⟨_,f1,_,f3,f4,f5⟩:=hf b hb;exact⟨f3,f1,f4,f5⟩
 ·obtain⟨o,es,ep,ho,r⟩:=hm;refine⟨o,es,ep,k _ o (fun z=>(hf _ z).2.1 rfl) ho,r⟩
 ·by_cases hb:b=p
  ·subst hb;rw [Qg]at e;cases e;exact⟨hz,its,hv,ht⟩
  ·rw [Qe hb]at e;refine(I.hok b u e).stay (fun c v hc q=>k c v ?_ q) (fun c q=>up c _ q) fun c xs q=>up c _ q
   rcases hc with z | z
   ·rw [z];exact nch b u e
   ·exact nch c _ z
theorem Inv.turnedL{t':Nat}{ch:List Addr}(I:Inv X pins σ H s)(hf:∀b∈ch,Qay X pins H b)(k:∀b o,b∉ch->s.heap.get? b=some o->h'.get? b=some o):Inv X pins σ H { s with heap:=h',toks:=t' }:=by
 have nch:∀b u,H b=some u->b∉ch:=fun b u e z=>by rw [(hf b z).1]at e;cases e
 refine I.step (g':=s.gens) (d':=s.drawn) (ch:=ch) (fun b hb=>?_) (fun b o _ _ hc e _=>k b o hc e) (fun b o _ _ hc e _=>⟨o.slots,k b o hc e⟩) (fun b o _ e n=>n)
  (fun b o hc e=>⟨o,k b o hc e⟩) (fun b xs e=>e) (fun b o u e=>e) (fun b ps e=>⟨#[],by rw [e];simp⟩) (fun m hm=>?_) (fun b u e=>?_) I.bare
 ·obtain⟨_,f1,_,f3,f4,f5⟩:=hf b hb;exact⟨f3,f1,f4,f5⟩
 ·obtain⟨o,es,ep,ho,r⟩:=hm;exact⟨o,es,ep,k _ o (fun z=>(hf _ z).2.1 rfl) ho,r⟩
 ·refine(I.hok b u e).stay (fun c v hc q=>k c v ?_ q) (fun c q=>q) fun c xs q=>q
  rcases hc with z | z
  ·rw [z];exact nch b u e
  ·exact nch c _ z
end
noncomputable def SqB:Bool->PySem.W.Frag->Hp->Addr->List V->Prop
 | true=>SqL
 | false=>SqT
noncomputable def LB:Bool->Addr->Array Value->Heap->Prop
 | true,l=>fun xs h=>h.IsList l xs
 | false,l=>fun xs h=>h.IsTuple l xs
noncomputable def PB:Bool->Addr->Addr->Nat->Heap->Prop
 | true,it,l=>fun k h=>h.IsListIter it l k
 | false,it,l=>fun k h=>h.IsTupleIter it l k
theorem nxB(b:Bool)(prog:Program)(w:World)(it l:Addr):Nx prog w it l (PB b it l) (LB b l):=by
 cases b with
 | true=>exact Qgs prog w it l
 | false=>exact Qeo prog w it l
theorem Inv.sqB{X:Cx}{pins:List (Addr×Obj)}{σ:St}{H:Hp}{s:Shared}{b:Bool}{a:Addr}{xs:List V}(I:Inv X pins σ H s)(h:SqB b X.K H a xs):∃its:List Value,Vals xs its/\LB b a its.toArray s.heap/\xs.length<=sizeLine:=by
 cases b with
 | true=>obtain⟨its,r,p,z⟩:=I.list h;exact⟨its,r,p.isList,z⟩
 | false=>obtain⟨its,r,p,z⟩:=I.tuple h;exact⟨its,r,p,z⟩
theorem Inv.sqB_inj{X:Cx}{pins:List (Addr×Obj)}{σ:St}{H:Hp}{s:Shared}{b:Bool}{a:Addr}{xs ys:List V}(I:Inv X pins σ H s)(h:SqB b X.K H a xs)(h':SqB b X.K H a ys):xs=ys:=by
 cases b with
 | true=>exact I.list_inj h h'
 | false=>exact I.tuple_inj h h'
noncomputable def Itz(b c:Bool)(K:PySem.W.Frag)(a1 a2:Addr):It :=
 ⟨fun i H=>∃xs ys x y,SqB b K H a1 xs/\SqB c K H a2 ys/\xs[i]?=some x/\ys[i]?=some y,
   fun i H x H'=>∃p v w,H p=none/\x=.ref p/\H'=upd H p (.tup [v,w])/\(∀xs,SqB b K H a1 xs->xs[i]?=some v)/\∀ys,SqB c K H a2 ys->ys[i]?=some w,
   fun i H=>∃xs ys,SqB b K H a1 xs/\SqB c K H a2 ys/\(xs.length<=i\/ys.length<=i)⟩
theorem Qc4{P:Program}{w:World}{K:PySem.W.Frag}{elts:List Expr}{kt:Nat}{pt:Pos}(b b':Bool)(a1 a2 z TI TO i1 i2:Addr)(D:ZipApart z TI TO i1 i2 a1 a2):
  Turn P w K (.Tuple elts kt pt) (Itz b b' K a1 a2) [z,TI,TO,i1,i2] z (fun i h=>IsZip h z TI TO .none/\IsPair h TI (.ref i1) (.ref i2)/\(∃a c,IsPair h TO a c)/\PB b i1 a1 i h/\PB b' i2 a2 i h) where
 mem:=by simp
 obj:=fun i h st c hc=>by
  obtain⟨hz,hTI,⟨a,c',hTO⟩,p1,p2⟩:=st
  have hc':c=z\/c=TI\/c=TO\/c=i1\/c=i2:=by simpa using hc
  rcases hc' with rfl | rfl | rfl | rfl | rfl
  ·exact⟨_,hz,fun v q=>nomatch q⟩
  ·exact⟨_,hTI,fun v q=>nomatch q⟩
  ·exact⟨_,hTO,fun v q=>nomatch q⟩
  ·obtain⟨o,vs,e,d⟩:=(nxB b P w c a1).obj i h p1
   exact⟨o,e,fun v q=>by rw [d]at q;cases q⟩
  ·obtain⟨o,vs,e,d⟩:=(nxB b' P w c a2).obj i h p2
   exact⟨o,e,fun v q=>by rw [d]at q;cases q⟩
 keep:=fun i h h' st k=>by
  obtain⟨hz,hTI,⟨a,c',hTO⟩,p1,p2⟩:=st
  exact⟨k z (by simp) _ hz,k TI (by simp) _ hTI,⟨a,c',k TO (by simp) _ hTO⟩,(nxB b P w i1 a1).keepP i h h' p1 fun o e=>k i1 (by simp) o e,(nxB b' P w i2 a2).keepP i h h' p2 fun o e=>k i2 (by simp) o e⟩
 item:=by
  intro X hP hw hK hc i pins s σ H E I hf st hg;subst hP hw hK;obtain⟨hz,hTI,⟨a,c',hTO⟩,p1,p2⟩:=st;obtain⟨xs,ys,x,y,q1,q2,ex,ey⟩:=hg;obtain⟨it1,r1,l1,_⟩:=I.sqB q1;obtain⟨it2,r2,l2,_⟩:=I.sqB q2;obtain⟨u,hu,ru⟩:=r1.get ex;obtain⟨v,hv,rv⟩:=r2.get ey
  have ltz:∀c,c∈[z,TI,TO,i1,i2]->c<s.heap.objs.size:=fun c hc=>by
   have hc':c=z\/c=TI\/c=TO\/c=i1\/c=i2:=by simpa using hc
   rcases hc' with rfl | rfl | rfl | rfl | rfl
   ·exact Heap.lt_size hz
   ·exact Heap.lt_size hTI
   ·exact Heap.lt_size hTO
   ·obtain⟨o,vs,e,d⟩:=(nxB b X.prog X.w c a1).obj i _ p1;exact Heap.lt_size e
   ·obtain⟨o,vs,e,d⟩:=(nxB b' X.prog X.w c a2).obj i _ p2;exact Heap.lt_size e
  refine ZY (nxB b X.prog X.w i1 a1) (nxB b' X.prog X.w i2 a2) D hz hTI hTO p1 p2 l1 l2 (x:=u) (y:=v) (by simpa using hu) (by simpa using hv) fun h' b1 b2 b3 b4 b5 b6 b7=>?_
  refine⟨_,rfl,?_⟩;refine wpAny_letOwnedTupleGo_zip (s:={ s with heap:=h' }) b1 fun h2 c1 c2=>?_;have nep:∀c,c∈[z,TI,TO,i1,i2]->c≠s.heap.objs.size:=fun c hc=>Nat.ne_of_lt (ltz c hc);have up:∀c o,c≠z->h'.get? c=some o->h2.get? c=some o:=fun c o hc e=>c2.extBut _ _ hc e
  have kp:∀c o,c∉[z,TO,i1,i2]->s.heap.get? c=some o->h2.get? c=some o:=fun c o hc e=>by
   have hc':¬(c=z\/c=TO\/c=i1\/c=i2):=by simpa using hc
   exact up c o (fun q=>hc' (.inl q)) (b7 c o (fun q=>hc' (.inl q)) (fun q=>hc' (.inr (.inl q))) (fun q=>hc' (.inr (.inr (.inl q)))) (fun q=>hc' (.inr (.inr (.inr q)))) e)
  have hf':∀c∈[z,TO,i1,i2],Qay X pins H c:=fun c hc=>hf c (by
   have hc':c=z\/c=TO\/c=i1\/c=i2:=by simpa using hc
   rcases hc' with rfl | rfl | rfl | rfl<;>simp)
  have hT:IsPair h2 s.heap.objs.size u v:=up _ _ (Ne.symm (nep z (by simp))) b5
  have I2:Inv X pins σ (upd H s.heap.objs.size (.tup [x,y])) { s with heap:=h2 }:=I.turnedLay (t':=s.toks) (its:=[u,v]) hf' kp (fun c o _ e=>by
   by_cases hc:c∈[z,TO,i1,i2]
   ·have hc':c=z\/c=TO\/c=i1\/c=i2:=by simpa using hc
    rcases hc' with rfl | rfl | rfl | rfl
    ·exact⟨_,c1⟩
    ·exact⟨_,up _ _ D.TOz b2⟩
    ·obtain⟨o,vs,e,d⟩:=(nxB b X.prog X.w c a1).obj _ _ b3;exact⟨o,up _ _ D.i1z e⟩
    ·obtain⟨o,vs,e,d⟩:=(nxB b' X.prog X.w c a2).obj _ _ b4;exact⟨o,up _ _ D.i2z e⟩
   ·exact⟨o,kp c o hc e⟩) (Nat.le_refl _) (.cons ru (.cons rv .nil)) ⟨_,hT,rfl,_,rfl⟩ (by show 2<=sizeLine;decide)
  have hn:H s.heap.objs.size=none:=I.hok.fresh (Nat.le_refl _)
  refine⟨.ref s.heap.objs.size,_,I2,rfl,⟨_,x,y,hn,rfl,rfl,fun ws hw=>by rw [I.sqB_inj hw q1];exact ex,fun ws hw=>by rw [I.sqB_inj hw q2];exact ey⟩,⟨c1,?_,⟨_,_,up _ _ D.TOz b2⟩,?_,?_⟩,fun c hc=>?_⟩
  ·exact kp _ _ (by
    have d1:=D.TIz;have d2:=D.TITO;have d3:=D.TIi1;have d4:=D.TIi2
    simp [d1,d2,d3,d4]) hTI
  ·exact(nxB b X.prog X.w i1 a1).keepP _ _ _ b3 fun o e=>up _ _ D.i1z e
  ·exact(nxB b' X.prog X.w i2 a2).keepP _ _ _ b4 fun o e=>up _ _ D.i2z e
  ·rw [Qe (nep c hc)];exact(hf c hc).1
 done:=by
  intro X hP hw hK hc i pins s σ H E I hf st hg;subst hP hw hK;obtain⟨hz,hTI,⟨a,c',hTO⟩,p1,p2⟩:=st;obtain⟨xs,ys,q1,q2,hl⟩:=hg;obtain⟨it1,r1,l1,_⟩:=I.sqB q1;obtain⟨it2,r2,l2,_⟩:=I.sqB q2;have e1:=r1.length;have e2:=r2.length
  refine Yh (nxB b X.prog X.w i1 a1) (nxB b' X.prog X.w i2 a2) (I.ok.hd hc) D hz hTI hTO p1 p2 l1 l2 (by
   rcases hl with q | q
   ·exact .inl (by simp;omega)
   ·exact .inr (by simp;omega)) fun h' kp=>⟨rfl,I.turnedL (t':=s.toks) (ch:=[z,TO,i1,i2]) (fun c hc=>hf c (by
    have hc':c=z\/c=TO\/c=i1\/c=i2:=by simpa using hc
    rcases hc' with rfl | rfl | rfl | rfl<;>simp)) fun c o hc e=>?_⟩
  have hc':¬(c=z\/c=TO\/c=i1\/c=i2):=by simpa using hc
  exact kp c o (fun q=>hc' (.inl q)) (fun q=>hc' (.inr (.inl q))) (fun q=>hc' (.inr (.inr (.inl q)))) (fun q=>hc' (.inr (.inr (.inr q)))) e
 self:=fun A i s Q E st h=>wpAny_pyIter_zip st.1 h
noncomputable abbrev Qez(b:Bool)(l:Addr):Obj:={ cls:=.type (if b then "list_iterator" else "tuple_iterator"),data:=.fields #[.ref l,.int 0 0] }
noncomputable abbrev zH1(b:Bool)(h:Heap)(l1:Addr):Heap:=h.push (Qez b l1)
noncomputable abbrev zH2(b b':Bool)(h:Heap)(l1 l2:Addr):Heap:=(zH1 b h l1).push (Qez b' l2)
noncomputable abbrev zH3(b b':Bool)(h:Heap)(l1 l2:Addr):Heap:=(zH2 b b' h l1 l2).push { cls:=.type "tuple",data:=.seq #[.ref h.objs.size,.ref (zH1 b h l1).objs.size] }
noncomputable abbrev zH4(b b':Bool)(h:Heap)(l1 l2:Addr):Heap:=(zH3 b b' h l1 l2).push { cls:=.type "tuple",data:=.seq #[.none,.none] }
noncomputable abbrev zH5(b b':Bool)(h:Heap)(l1 l2:Addr):Heap:=(zH4 b b' h l1 l2).push { cls:=.type "zip",data:=.fields #[.none,.bool false,.bool false,.ref (zH2 b b' h l1 l2).objs.size,.ref (zH3 b b' h l1 l2).objs.size] }
theorem Qbd(b b':Bool)(l1 l2:Addr)(xs ys:Array Value):
  Meets (Builtin.«zip.__new__» ⟨[.type "zip", .ref l1, .ref l2], []⟩) (fun _ R s => LB b l1 xs s.heap /\ LB b' l2 ys s.heap /\
   R (.ok (.ret (.ref (zH4 b b' s.heap l1 l2).objs.size))) { s with heap:=zH5 b b' s.heap l1 l2 }):=by
 refine .of_wp fun prog w A R s h=>?_;obtain⟨hp,g,d,tk,os⟩:=s;obtain⟨hl1,hl2,h⟩:=h;have hsub:=sub_zip
 cases b with
 | true =>
  have hL1:Heap.IsList (Shared.heap ⟨hp,g,d,tk,os⟩) l1 xs:=hl1
  cases b' with
  | true =>
   have hL2:Heap.IsList (Shared.heap ⟨hp.push { cls:=.type "list_iterator",data:=.fields #[.ref l1,.int 0 0] },g,d,tk,os⟩) l2 ys:=Heap.IsList.push hl2 _
   wp_walk using wpAny_pyIter_list hL1,wpAny_pyIter_list hL2
   exact⟨_,rfl,h⟩
  | false =>
   have hL2:Heap.IsTuple (Shared.heap ⟨hp.push { cls:=.type "list_iterator",data:=.fields #[.ref l1,.int 0 0] },g,d,tk,os⟩) l2 ys:=Heap.IsTuple.at hl2 fun o e=>Heap.get?_push_of_some _ e
   wp_walk using wpAny_pyIter_list hL1,wpAny_pyIter_tuple hL2
   exact⟨_,rfl,h⟩
 | false =>
  have hL1:Heap.IsTuple (Shared.heap ⟨hp,g,d,tk,os⟩) l1 xs:=hl1
  cases b' with
  | true =>
   have hL2:Heap.IsList (Shared.heap ⟨hp.push { cls:=.type "tuple_iterator",data:=.fields #[.ref l1,.int 0 0] },g,d,tk,os⟩) l2 ys:=Heap.IsList.push hl2 _
   wp_walk using wpAny_pyIter_tuple hL1,wpAny_pyIter_list hL2
   exact⟨_,rfl,h⟩
  | false =>
   have hL2:Heap.IsTuple (Shared.heap ⟨hp.push { cls:=.type "tuple_iterator",data:=.fields #[.ref l1,.int 0 0] },g,d,tk,os⟩) l2 ys:=Heap.IsTuple.at hl2 fun o e=>Heap.get?_push_of_some _ e
   wp_walk using wpAny_pyIter_tuple hL1,wpAny_pyIter_tuple hL2
   exact⟨_,rfl,h⟩
section
variable {prog:Program}{w:World}{A:Around}{E:Value->Shared->Prop}{s:Shared}
theorem QcP{b b':Bool}{l1 l2:Addr}{xs ys:Array Value}{Q:Value->Shared->Prop}(hl1:LB b l1 xs s.heap)(hl2:LB b' l2 ys s.heap)
  (h:∀h',IsZip h' (s.heap.objs.size+4) (s.heap.objs.size+2) (s.heap.objs.size+3) .none->IsPair h' (s.heap.objs.size+2) (.ref s.heap.objs.size) (.ref (s.heap.objs.size+1)) ->
   IsPair h' (s.heap.objs.size+3) .none .none->PB b s.heap.objs.size l1 0 h'->PB b' (s.heap.objs.size+1) l2 0 h'->h'.objs.size=s.heap.objs.size+5 ->
   (∀c o,s.heap.get? c=some o->h'.get? c=some o)->Q (.ref (s.heap.objs.size+4)) { s with heap:=h' }):
  wpAny (model prog w) A (call (.type "zip") [.ref l1,.ref l2]) Q E s:=by
 refine callType_new F.called_zip (by decide) (F.typeCall_zip_2 _ _) (F.newCall_zip_2 _ _) (fun obj=>F.args_object_init_3 obj _ _) F.entry_zip_new
  (Qbd b b' l1 l2 xs ys) ⟨hl1,hl2,?_⟩
 have z1:(zH1 b s.heap l1).objs.size=s.heap.objs.size+1:=Heap.size_push ..
 have z2:(zH2 b b' s.heap l1 l2).objs.size=s.heap.objs.size+2:=by rw [Heap.size_push,z1]
 have z3:(zH3 b b' s.heap l1 l2).objs.size=s.heap.objs.size+3:=by rw [Heap.size_push,z2]
 have z4:(zH4 b b' s.heap l1 l2).objs.size=s.heap.objs.size+4:=by rw [Heap.size_push,z3]
 have z5:(zH5 b b' s.heap l1 l2).objs.size=s.heap.objs.size+5:=by rw [Heap.size_push,z4]
 have g5:(zH5 b b' s.heap l1 l2).get? (zH4 b b' s.heap l1 l2).objs.size=some _:=Heap.get?_push_size _ rfl;have g4:(zH5 b b' s.heap l1 l2).get? (zH3 b b' s.heap l1 l2).objs.size=some _:=Heap.get?_push_of_some _ (Heap.get?_push_size _ rfl);have g3:(zH5 b b' s.heap l1 l2).get? (zH2 b b' s.heap l1 l2).objs.size=some _:=Heap.get?_push_of_some _ (Heap.get?_push_of_some _ (Heap.get?_push_size _ rfl));have g2:(zH5 b b' s.heap l1 l2).get? (zH1 b s.heap l1).objs.size=some (Qez b' l2):=Heap.get?_push_of_some _ (Heap.get?_push_of_some _ (Heap.get?_push_of_some _ (Heap.get?_push_size _ rfl)));have g1:(zH5 b b' s.heap l1 l2).get? s.heap.objs.size=some (Qez b l1):=Heap.get?_push_of_some _ (Heap.get?_push_of_some _ (Heap.get?_push_of_some _ (Heap.get?_push_of_some _ (Heap.get?_push_size _ rfl))));show _/\_;rw [z2,z3,z4]at g5;rw [z1,z2]at g3;rw [z3]at g4;rw [z1]at g2;rw [z4];refine⟨⟨_,g5,rfl⟩,h _ g5 g3 g4 ?_ ?_ z5 fun c o x=>Heap.get?_push_of_some _ (Heap.get?_push_of_some _ (Heap.get?_push_of_some _ (Heap.get?_push_of_some _ (Heap.get?_push_of_some _ x))))⟩
 ·cases b<;>exact⟨_,g1,rfl,rfl⟩
 ·cases b'<;>exact⟨_,g2,rfl,rfl⟩
end
section
variable {X:Cx}
noncomputable def Ql0(b b':Bool)(K:PySem.W.Frag)(ta:TA):TI:=fun σ H R=>ta σ H fun vs H1=>∃a1 a2,vs=[.ref a1,.ref a2]/\(∃xs,SqB b K H1 a1 xs)/\(∃ys,SqB b' K H1 a2 ys)/\R (Itz b b' K a1 a2) H1
theorem QaL{b b':Bool}{e1 e2:Expr}{ta:TA}{elts:List Expr}{kt:Nat}{pt p pos:Pos}(hg:Gl X "zip") (hm:X.mg "zip"=none) (ha:PA X [e1,e2] ta) (hs:starEach [e1,e2] X.env=[(false,eval e1 X.env),(false,eval e2 X.env)]) (hs2:starEach [e2] X.env=[(false,eval e2 X.env)]):
  PI X (.Tuple elts kt pt) (.Call (.Name "zip" p) [e1,e2] [] pos) (Ql0 b b' X.K ta):=by
 intro pins s σ H R I h
 refine Call_ (Zz I hg hm PyProof.Rows.boot_zip (PyProof.Rows.callWith_type1 (thn (ha pos pins s σ H _ I h) fun us s1 ⟨vs,H1,I1,r1,q1⟩=>?_) (by rw [hs,hs2]) (by rw [hs2];rfl)))
 obtain⟨a1,a2,e,⟨xs,q1⟩,⟨ys,q2⟩,q⟩:=q1;subst e;obtain⟨u,w',rfl,ru,rw'⟩:=QfB r1;cases(show u=_ from ru);cases(show w'=_ from rw');obtain⟨it1,v1,l1,_⟩:=I1.sqB q1;obtain⟨it2,v2,l2,_⟩:=I1.sqB q2
 have hlt1:a1<s1.heap.objs.size:=by
  cases b with
  | true=>obtain⟨o,e,_⟩:=l1;exact Heap.lt_size e
  | false=>obtain⟨o,e,_⟩:=l1;exact Heap.lt_size e
 have hlt2:a2<s1.heap.objs.size:=by
  cases b' with
  | true=>obtain⟨o,e,_⟩:=l2;exact Heap.lt_size e
  | false=>obtain⟨o,e,_⟩:=l2;exact Heap.lt_size e
 refine QcP l1 l2 fun h' b1 b2 b3 b4 b5 b6 b7=>?_;refine wpAny_pyIter_zip b1 ?_;have I2:Inv X pins σ H1 { s1 with heap:=h' }:=I1.kept (t':=s1.toks) b7;refine⟨_,[s1.heap.objs.size+4,s1.heap.objs.size+2,s1.heap.objs.size+3,s1.heap.objs.size,s1.heap.objs.size+1],_,_,H1,rfl,I2,Qc4 b b' a1 a2 _ _ _ _ _ (PySem.W.ktu_apart _ _ _ hlt1 hlt2),⟨b1,b2,⟨_,_,b3⟩,b4,b5⟩,fun c hc=>?_,q⟩
 have hc':c=s1.heap.objs.size+4\/c=s1.heap.objs.size+2\/c=s1.heap.objs.size+3\/c=s1.heap.objs.size\/c=s1.heap.objs.size+1:=by simpa using hc
 have le:s1.heap.objs.size<=c:=by rcases hc' with rfl | rfl | rfl | rfl | rfl<;>omega
 exact I1.fpOk le (I1.hok.fresh le)
end
end L2
namespace L2
open PySem PySem.Spec PyProof.Rows
section
variable {X:Cx}
end
end L2
namespace L2
open PySem PySem.Spec PyProof.Rows
noncomputable def Cx.block(X:Cx)(xs:List Str)(scope:Scope)(C:Addr)(s:Shared)(H:Hp)(fp:List Addr):Cx :=
 { X with N:=hideN xs X.N++xs,s₀:=s,H₀:=H,env:=compEnvC scope (Qbp X.env.cells scope.names []) C X.env,outer:=X.stack,ex:=fp,fn:=fun _=>false,pn:=[],xe:=fun _ _=>False }
structure CompOk(X:Cx)(xs:List Str)(scope:Scope):Prop where
 kind:scope.kind=.function
 loc:∀x∈xs,scope.names.lookup x=some .local
 all : ∀ y ∈ scope.names, (y.2 = .local -> (y.1 ∈ xs \/ y.1 = ".0") /\ scope.names.lookup y.1 = some .local) /\ y.2 ≠ .cell /\ (y.2 = .free -> X.env.scope.names.lookup y.1 = some .cell \/ X.env.scope.names.lookup y.1 = some .free)
 hid:∀x∈xs,scope.names.lookup (mang x)=none
 nd:xs.Nodup
 dot:(".0":Str)∉X.N
section
variable {X:Cx}{xs:List Str}{scope:Scope}{pins:List (Addr×Obj)}{σ:St}{H:Hp}{s:Shared}{fp:List Addr}
theorem CompOk.free_of(k:CompOk X xs scope)(hk:X.env.scope.kind=.function){y:Str}(h:(relabel scope X.env).names.lookup y=some .cell\/(relabel scope X.env).names.lookup y=some .free):(y,NameKind.free)∈scope.names:=by
 rw [QW hk,Zq]at h
 cases q:scope.names.lookup y with
 | none=>rw [q]at h;simp at h
 | some kd =>
  rw [q]at h;have m:=ZV q
  cases kd with
  | free=>exact m
  | cell=>exact absurd rfl (k.all _ m).2.1
  | _=>simp at h
theorem CompOk.local_of (k : CompOk X xs scope) (hk : X.env.scope.kind = .function) {y : Str} (h : (relabel scope X.env).names.lookup y = some .local) : y ∈ xs \/ y = ".0" := by
 rw [QW hk,Zq]at h
 cases q:scope.names.lookup y with
 | none=>rw [q]at h;simp at h
 | some kd =>
  rw [q]at h;have m:=ZV q
  cases kd with
  | «local»=>exact((k.all _ m).1 rfl).1
  | free =>
   simp only [Option.map_some]at h;split at h<;>cases h
  | _=>simp at h
theorem Q9{cells:List (Str×Addr)}{l:List (Str×NameKind)}{y:Str}{c:Addr}(e:(Qbp cells l []).lookup y=some c):cells.lookup y=some c:=by
 rcases JL e with z | z
 ·simp at z
 ·exact z
theorem Qgi{σ:St}{n i:Nat}{v:V}(e:(σ++List.replicate n none)[i]?=some (some v)):σ[i]?=some (some v):=by
 by_cases h:i < σ.length
 ·rw [List.getElem?_append_left h]at e;exact e
 ·rw [List.getElem?_append_right (by omega),List.getElem?_replicate]at e
  split at e<;>cases e
theorem Inv.block{h₁:Heap}{m:Str->Option Value}{tk:Nat}(I:Inv X pins σ H s)(k:CompOk X xs scope)(hf:∀b∈fp,Qay X pins H b)(hfs:∀b∈fp,b<s.heap.objs.size)
  (hn:h₁.Ns s.heap.objs.size m) (kp:∀b o,s.heap.get? b=some o->h₁.get? b=some o):Inv (X.block xs scope s.heap.objs.size s H fp) [] (σ++List.replicate xs.length none) H { s with heap:=h₁,toks:=tk }:=by
 have hk:X.env.scope.kind=.function:=I.ok.kind
 have fsub:∀b∈fp,b∉frs X.stack:=fun b hb z=>by
  rcases List.mem_cons.mp (I.stkSub b z)with e | e
  ·exact(hf b hb).2.1 e
  ·exact(hf b hb).2.2.1 e
 have okB:(X.block xs scope s.heap.objs.size s H fp).Ok:={
  mod:=I.ok.mod
  kind:=k.kind
  glob:=I.ok.glob
  blt:=I.ok.blt
  above:=Nat.le_refl _
  inj:=fun y z c e1 e2=>I.ok.inj y z c (Q9 e1) (Q9 e2)
  has:=fun y h=>by
   have m:=k.free_of hk h;obtain⟨c,hc⟩:=I.ok.has y ((k.all _ m).2.2 rfl);exact⟨c,Jd hc (.inl m)⟩
  cab:=fun y c h=>nomatch h
  hd:=I.ok.hd
  frames:=I.ok.frames
  stk:=.inl rfl
  exf:=fun b hb=>⟨Nat.ne_of_lt (hfs b hb),fun y c e=>(hf b hb).2.2.2.2.1 y c (Q9 e)⟩
  bs:=I.bs
  bsz:=Nat.le_trans I.ok.bsz I.sz
  noex:=fun b o e hb=>by
   rcases (hf b hb).2.2.2.1 with z | z
   ·exact I.ok.noex b o e z
   ·exact absurd (Nat.lt_of_lt_of_le (Heap.lt_size e) (Nat.le_trans I.ok.bsz z)) (Nat.lt_irrefl _)
  exfs:=fun b hb z=>fsub b hb z
  funs:=I.stack
  frf:=fun b hb=>I.stkFree b hb }
 refine⟨okB,rfl,I.bare,Un.kept kp,⟨m,hn,fun i y v e1 e2 e3=>?_⟩,fun y c e=>?_,I.hok.fresh (Nat.le_refl _),fun y c e=>I.freeC y c (Q9 e),(fun p hp=>by cases hp),I.hok.kept kp,?_⟩
 ·have e1:(hideN xs X.N++xs)[i]?=some y:=e1;have e3:Vis (relabel scope X.env) y:=e3;have q2:σ[i]?=some (some v):=Qgi e2
  have q0:(hideN xs X.N)[i]?=some y:=by
   have:=(List.getElem?_eq_some_iff.mp q2).1;rw [I.len,<-ZN (xs:=xs)]at this;rw [List.getElem?_append_left this]at e1;exact e1
  obtain⟨z,q1,⟨zm,rfl⟩ | ⟨zn,rfl⟩⟩:=QeC q0
  ·have no:=k.hid z zm
   have no':(relabel scope X.env).names.lookup (mang z)=none:=by rw [QW hk,Zq,no];rfl
   rcases e3 with w | w | w<;>(rw [no']at w;cases w)
  have ym:y∈X.N:=List.mem_of_getElem? q1
  have hcf:(relabel scope X.env).names.lookup y=some .cell\/(relabel scope X.env).names.lookup y=some .free:=by
   rcases e3 with z | z
   ·rcases k.local_of hk z with q | q
    ·exact absurd q zn
    ·exact absurd (q▸ym) k.dot
   ·exact z
  have m':=k.free_of hk hcf;have xk:=(k.all _ m').2.2 rfl;obtain⟨mm,hnn,hl⟩:=I.loc;obtain⟨u,r,l⟩:=hl i y v q1 q2 (.inr xk);refine⟨u,r,.inr ⟨hcf,?_⟩⟩
  rcases l with⟨l,_⟩ | ⟨_,c,e,o,ho,hd⟩
  ·have l:X.env.scope.names.lookup y=some .local:=l
   rcases xk with z | z<;>(rw [l]at z;cases z)
  ·exact⟨c,Jd e (.inl m'),o,kp c o ho,hd⟩
 ·obtain⟨v,o,ho,hd⟩:=I.cell y c (Q9 e);exact⟨v,o,kp c o ho,hd⟩
 ·show(σ++List.replicate xs.length none).length=(hideN xs X.N++xs).length;simp [I.len,ZN]
noncomputable def PTO(X:Cx)(tl:Option Expr)(tt:TT):Prop:=match tl with
 | none=>∀σ H Q,tt σ H Q->Q true H
 | some c=>PT X c tt
noncomputable def Qdg(wi:TI)(n:Nat)(g:TG)(tt:TT)(te:TE):TE:=fun σ H Q=>wi σ H fun J H1=>∀D,H1 D=none->∃W:Nat->Nat->List V->Hp->Prop,(∃m,W 0 m [] (upd H1 D (.lst [])))/\∀i m ys H2,W i m ys H2->H2 D=some (.lst ys) /\
 ((J.stop i H2/\Q (.ref D) H2)\/(J.go i H2/\ys.length<sizeLine/\∀x H3 os,os.length=n->J.yld i H2 x H3->g x (σ++os) H3 fun σ' H4=>(∃os',os'.length=n/\σ'=σ++os')/\tt σ' H4 fun b H5=>if b=true then te σ' H5 fun y H6=>H6 D=some (.lst ys)/\∃m',m'<m/\W (i+1) m' (ys++[y]) (upd H6 D (.lst (ys++[y])))else ∃m',m'<m/\W (i+1) m' ys H5))
theorem YR{pos:Pos}{elt tg iter:Expr}{tl:Option Expr}{g:TG}{tt:TT}{te:TE}{n:Nat}{Q:VK}{it:Addr}{tn:Nat->Heap->Prop}{J:It}{E:Value->Shared->Prop}{RR:Value->Addr->Result->Shared->Prop}(hc:X.calm=true)(k:CompOk X xs scope)
  (hn:xs.length=n) (hg:∀C s H fp,PG (X.block xs scope C s H fp) tg g) (ht:∀C s H fp,PTO (X.block xs scope C s H fp) tl tt) (he:∀C s H fp,PE (X.block xs scope C s H fp) elt te)
  (I2:Inv X pins σ H s) (T:Turn X.prog X.w X.K tg J fp it tn) (st2:tn 0 s.heap) (f2:∀b∈fp,Qay X pins H b)
  (q:∀D,H D=none->∃W:Nat->Nat->List V->Hp->Prop,(∃m,W 0 m [] (upd H D (.lst [])))/\∀i m ys H2,W i m ys H2->H2 D=some (.lst ys) /\
   ((J.stop i H2/\Q (.ref D) H2)\/(J.go i H2/\ys.length<sizeLine/\∀x H3 os,os.length=n->J.yld i H2 x H3->g x (σ++os) H3 fun σ' H4=>(∃os',os'.length=n/\σ'=σ++os')/\tt σ' H4 fun b H5=>if b=true then te σ' H5 fun y H6=>H6 D=some (.lst ys)/\∃m',m'<m/\W (i+1) m' (ys++[y]) (upd H6 D (.lst (ys++[y])))else ∃m',m'<m/\W (i+1) m' ys H5)))
  (hRR:∀D C s' H' m,Inv X pins σ H' s'->s'.heap.Ns C m->Qay X pins H' C->Q (.ref D) H'->RR (.ref D) C (.ok .next) s'):
  wpAny (model X.prog X.w) X.A (newList []) (fun acc s₃=>wpAny (model X.prog X.w) X.A (newFunctionEnv scope X.env.globals (Qbp X.env.cells scope.names []) [] X.env.qual none .none (some X.env)) (fun cenv s₄ =>
   codeAny (model X.prog X.w) X.A (.compStart (.ListComp elt [⟨tg,iter,tl.toList,0⟩] scope pos) 0 (.ref it) acc { cenv with scope:=relabel scope X.env }) (RR acc cenv.locals) s₄) E s₃) E s:=by
 have hk:X.env.scope.kind=.function:=I2.ok.kind
 refine wpAny_newObj_type (wpAny_newFunctionEnv (fun y hy=>(k.all y hy).2.1) (by intro y hy;simp at hy) (fun h₁ hns₁ hsb₁=>?_) k.kind)
 dsimp only at hns₁ hsb₁ ⊢;have hD:H s.heap.objs.size=none:=I2.hok.fresh (Nat.le_refl _);obtain⟨W,⟨m0,w0⟩,turn⟩:=q s.heap.objs.size hD
 have I3:Inv X pins σ (upd H s.heap.objs.size (.lst [])) { s with heap:=s.heap.push { cls:=.type "list",dict:=none,data:=.seq ([]:List Value).toArray } }:=
  I2.laid (t':=s.toks) (fun b o e=>Heap.get?_push_of_some _ e) (Nat.le_refl _) (show ObjOk X.prog X.w _ _ _ (.lst [])from⟨Nat.zero_le _,[],_,.nil,Heap.get?_push_size _ rfl⟩)
 have lt2:∀b∈fp,b<s.heap.objs.size:=fun b hb=>by
  obtain⟨o,e,_⟩:=T.obj 0 _ st2 b hb;exact Heap.lt_size e
 have f3:∀b∈fp,Qay X pins (upd H s.heap.objs.size (.lst [])) b:=fun b hb=>⟨by rw [Qe (Nat.ne_of_lt (lt2 b hb))];exact(f2 b hb).1,(f2 b hb).2⟩
 have lt3:∀b∈fp,b<(s.heap.push { cls:=.type "list",dict:=none,data:=.seq ([]:List Value).toArray }).objs.size:=fun b hb=>by
  rw [Heap.size_push];exact Nat.lt_succ_of_lt (lt2 b hb)
 generalize hs3:({ s with heap:=s.heap.push { cls:=.type "list",dict:=none,data:=.seq ([]:List Value).toArray } }:Shared)=s3 at I3
 have e3:s3.heap=s.heap.push { cls:=.type "list",dict:=none,data:=.seq ([]:List Value).toArray }:=by rw [<-hs3]
 rw [<-e3]at hns₁ hsb₁ lt3 ⊢;have kp:∀b o,s3.heap.get? b=some o->h₁.get? b=some o:=fun b o e=>hsb₁.extBut b o (Nat.ne_of_lt (Heap.lt_size e)) (Heap.get?_push_of_some _ e);have IB:=I3.block (tk:=s.toks+([]:List (Str×Value)).length) k f3 lt3 hns₁ kp
 have es:({ s3 with heap:=h₁,toks:=s.toks+([]:List (Str×Value)).length }:Shared)={ s with heap:=h₁,toks:=s.toks+([]:List (Str×Value)).length }:=by rw [<-hs3]
 rw [es]at IB;generalize hX:X.block xs scope s3.heap.objs.size s3 (upd H s.heap.objs.size (.lst [])) fp=Y at IB;have HE:PE Y elt te:=hX▸he _ _ _ _;have HT:PTO Y tl tt:=hX▸ht _ _ _ _;have HG:PG Y tg g:=hX▸hg _ _ _ _
 have hP:Y.prog=X.prog:=by rw [<-hX];rfl
 have hw:Y.w=X.w:=by rw [<-hX];rfl
 have hK:Y.K=X.K:=by rw [<-hX];rfl
 have hA:Y.A=X.A:=by rw [<-hX];rfl
 have hcY:Y.calm=true:=by rw [<-hX];exact hc
 have hxe:Y.xe=fun _ _=>False:=by rw [<-hX];rfl
 have henv:Y.env=compEnvC scope (Qbp X.env.cells scope.names []) s3.heap.objs.size X.env:=by rw [<-hX];rfl
 have fpY:∀{H':Hp},(∀b∈fp,H' b=none)->∀b∈fp,Qay Y [] H' b:=fun hn b hb=>by
  have hb1:=(f2 b hb).2;rw [<-hX]
  refine⟨hn b hb,?_,fun z=>?_,.inl hb,fun y c e=>hb1.2.2.2.1 y c (Q9 e),(fun p hp=>by cases hp)⟩
  ·exact Nat.ne_of_lt (lt3 b hb)
  ·rcases List.mem_cons.mp (I3.stkSub b z)with e | e
   ·exact hb1.1 e
   ·exact hb1.2.1 e
 -- behind the block
 have back:∀{σ':St} {H':Hp} {s':Shared},Inv Y [] σ' H' s'->Inv X pins σ H' s'/\(∃m,s'.heap.Ns s3.heap.objs.size m)/\Qay X pins H' s3.heap.objs.size:=fun {σ' H' s'} J'=>by
  have u:=J'.base;have os:=J'.os;have hok:=J'.hok;have bare:=J'.bare;obtain⟨mm,hnn,_⟩:=J'.loc;have fr:=J'.free;rw [henv]at hnn fr;rw [<-hX]at u os hok;refine⟨I3.call' os u hok bare fun b hb=>?_,⟨mm,hnn⟩,I3.fpOk (Nat.le_refl _) fr⟩;exact⟨(f2 b hb).2.2.2.1,(f2 b hb).2.1,(f2 b hb).2.2.2.2.1,(f2 b hb).2.2.2.2.2⟩
 have loop:∀s₃:Shared,Inv Y [] (σ++List.replicate xs.length none) (upd H s.heap.objs.size (.lst [])) s₃->tn 0 s₃.heap ->
   codeAny (model X.prog X.w) X.A (.compLoop (.ListComp elt [⟨tg,iter,tl.toList,0⟩] scope pos) 0 (.ref it) (.ref s.heap.objs.size) Y.env) (RR (.ref s.heap.objs.size) s3.heap.objs.size) s₃:=by
  intro s₃ J3 t3
  refine Qat (fun m s'=>∃i os H' ys,os.length=n/\Inv Y [] (σ++os) H' s'/\tn i s'.heap/\(∀b∈fp,H' b=none)/\W i m ys H') ?_ m0 ⟨0,_,_,[],by rw [List.length_replicate];exact hn,J3,t3,fun b hb=>(f3 b hb).1,w0⟩
  rintro m s4 ⟨i,os,H4,ys,lo,J4,st4,fr4,w4⟩;obtain⟨hDl,tr⟩:=turn i m ys H4 w4
  rcases tr with⟨stop,qn⟩ | ⟨go,hz,step⟩
  ·have dn:=T.done Y hP hw hK hcY i [] s4 (σ++os) H4 (notedBy (model X.prog X.w) X.A Y.env fun e s'=>RR (.ref s.heap.objs.size) s3.heap.objs.size (.error e) s') J4 (fpY fr4) st4 stop;rw [hA]at dn;refine thn dn fun r s5 ⟨hr,J5⟩=>?_;subst hr;obtain⟨I5,⟨m5,n5⟩,f5⟩:=back J5;exact hRR _ _ _ _ _ I5 n5 f5 qn
  ·have im:=T.item Y hP hw hK hcY i [] s4 (σ++os) H4 (notedBy (model X.prog X.w) X.A Y.env fun e s'=>RR (.ref s.heap.objs.size) s3.heap.objs.size (.error e) s') J4 (fpY fr4) st4 go;rw [hA]at im;refine thn im fun r s5 ⟨u,hr,h5⟩=>?_;subst hr;refine thn h5 fun _ s6 ⟨v,H6,J6,rv,y6,st6,fr6⟩=>?_;have J6':=J6.pinned (fpY fr6) (T.obj _ _ st6)
   have noE:∀{EE:Value->Shared->Prop},∀e s',Y.xe e s'->EE e s':=fun {EE} e s' z=>by rw [hxe]at z;exact z.elim
   have asg:=HG _ s6 (σ++os) H6 v u _ J6' rv (step v H6 os lo y6);rw [hP,hw,hA]at asg;refine wpAny_mono asg (fun _ s7 ⟨σ7,H7,J7,⟨os',lo',e7⟩,q7⟩=>?_) noE;subst e7
   have fin:∀{s9:Shared} {H9:Hp} {m':Nat} {zs:List V},Inv Y ([]++Yi fp s6.heap) (σ++os') H9 s9->m'<m->W (i+1) m' zs H9->∃m',m'<m/\∃i os H' ys,os.length=n/\Inv Y [] (σ++os) H' s9/\tn i s9.heap/\(∀b∈fp,H' b=none)/\W i m' ys H':=fun {s9 H9 m' zs} J9 hm' w9=>by
    refine⟨m',hm',i+1,os',H9,zs,lo',J9.unpinned,T.keep _ _ _ st6 fun b hb ob e=>(J9.pin (b,ob) (List.mem_append_right _ (List.mem_append_right _ (Zn hb e)))).1,fun b hb=>?_,w9⟩;obtain⟨ob,e,d⟩:=T.obj _ _ st6 b hb;exact(J9.pin (b,ob) (List.mem_append_right _ (List.mem_append_right _ (Zn hb e)))).2.1
   have tst:wpAny (model X.prog X.w) X.A (forIn tl.toList true fun c r=>if r=true then do let ok <-isTrue c Y.env (eval c Y.env);pure (ForInStep.yield ok)else pure (ForInStep.yield r)) (TP Y ([]++Yi fp s6.heap) (σ++os') fun b H5=>if b=true then te (σ++os') H5 fun y H6=>H6 s.heap.objs.size=some (.lst ys)/\∃m',m'<m/\W (i+1) m' (ys++[y]) (upd H6 s.heap.objs.size (.lst (ys++[y])))else ∃m',m'<m/\W (i+1) m' ys H5) (notedBy (model X.prog X.w) X.A Y.env fun e s'=>RR (.ref s.heap.objs.size) s3.heap.objs.size (.error e) s') s7:=by
    refine Qc3 ?_
    cases tl with
    | none=>exact⟨H7,J7,HT _ _ _ q7⟩
    | some c =>
     have z:=(show PT Y c tt from HT) _ s7 _ _ _ J7 q7;rw [hP,hw,hA]at z;exact wpAny_mono z (fun _ _ h=>h) noE
   refine wpAny_mono tst (fun b s8 ⟨H8,J8,q8⟩=>?_) fun _ _ e=>e
   cases b with
   | false =>
    rw [if_neg Bool.false_ne_true]at q8 ⊢;obtain⟨m',hm',w8⟩:=q8;exact fin J8 hm' w8
   | true =>
    rw [if_pos rfl]at q8 ⊢;have ev:=HE _ s8 _ _ _ J8 q8;rw [hP,hw,hA]at ev;refine wpAny_mono ev (fun y s8 ⟨yv,H8,J8,ry,hD8,m',hm',w8⟩=>?_) noE;have ap:=Jw (X:=Y) _ s8 _ H8 (.ref s.heap.objs.size) [yv] (.ref s.heap.objs.size) [y] (fun _ H'=>H'=upd H8 s.heap.objs.size (.lst (ys++[yv]))) J8 rfl (.cons ry .nil) ⟨_,ys,yv,rfl,rfl,hD8,hz,rfl⟩;rw [hP,hw,hA]at ap;refine wpAny_mono ap (fun _ s9 ⟨_,H9,J9,_,e9⟩=>?_) noE;subst e9;exact fin J9 hm' w8
 have t1:tn 0 h₁:=T.keep 0 _ _ st2 fun b hb o e=>kp b o (by rw [e3];exact Heap.get?_push_of_some _ e)
 have go:=loop _ IB t1;rw [henv]at go;refine codeAny_compStart_list ?_ ?_
 ·exact go
 ·exact T.self X.A 0 _ _ _ t1 go
theorem QbZ{pos:Pos}{elt tg iter:Expr}{tl:Option Expr}{wi:TI}{n:Nat}{g:TG}{tt:TT}{te:TE}(hc:X.calm=true)(k:CompOk X xs scope)(hi:PI X tg iter wi)(hn:xs.length=n)(hg:∀C s H fp,PG (X.block xs scope C s H fp) tg g)(ht:∀C s H fp,PTO (X.block xs scope C s H fp) tl tt)(he:∀C s H fp,PE (X.block xs scope C s H fp) elt te)
  (hs:∀v,foldedSetIterable iter X.env v=pure v):PE X (.ListComp elt [⟨tg,iter,tl.toList,0⟩] scope pos) (Qdg wi n g tt te):=by
 intro pins s σ H Q I h;rw [eval_ListComp];refine wpAny_comprehension_free (use:=none) rfl hs (YT fun y hy hf=>I.ok.has y.1 ((k.all y hy).2.2 hf)) k.kind (fun y hy hl=>((k.all y hy).1 hl).2) ?_;refine thn (hi pins s σ H _ I h) fun v s1 h1=>thn h1 fun itv s2 h2=>?_;obtain⟨it,fp,tn,J,H2,e,I2,T,st2,f2,q⟩:=h2;subst e;refine YR (RR:=fun acc C=>compPost (model X.prog X.w) X.A X.xe none (EP X pins σ Q) acc C) hc k hn hg ht he I2 T st2 f2 q ?_;intro D C s' H' m I' n' f' q';refine⟨m,n',fun h' sb=>?_⟩;exact⟨.ref D,H',I'.turned (t':=s'.toks) (fun b o hb e=>sb.extBut b o hb e) f'.1 f'.2.1 f'.2.2.2.1 f'.2.2.2.2.1 f'.2.2.2.2.2,rfl,q'⟩
theorem Qf6{pos py spos:Pos}{elt tg iter:Expr}{tl:Option Expr}{wi:TI}{n:Nat}{g:TG}{tt:TT}{te:TE}{y:Str}{j:Nat}(hc:X.calm=true)(hN:X.N.Nodup)(k:CompOk X xs scope)(hi:PI X tg iter wi)(hn:xs.length=n)(hg:∀C s H fp,PG (X.block xs scope C s H fp) tg g)(ht:∀C s H fp,PTO (X.block xs scope C s H fp) tl tt)(he:∀C s H fp,PE (X.block xs scope C s H fp) elt te)
  (hs:∀v,foldedSetIterable iter X.env v=pure v) (hj:X.N[j]?=some y) (hy:Loc X.env.scope y) (hfn:X.fn y=true\/X.env.scope.names.lookup y=some .local):
  PS X (.Assign [.Name y py] (.ListComp elt [⟨tg,iter,tl.toList,0⟩] scope pos) spos) (fun D σ H=>Qdg wi n g tt te σ H fun v H1=>D.nx (σ.set j (some v)) H1):=by
 have hsw:∃b,swapsWith (.ListComp elt [⟨tg,iter,tl.toList,0⟩] scope pos) (some (.Name y py)) spos.line X.env=pure b:=⟨_,rfl⟩;obtain⟨b,hsw⟩:=hsw
 cases b with
 | false=>exact QaI hN hj hy (QbZ hc k hi hn hg ht he hs) hsw hfn
 | true =>
  intro pins s σ H D I h;rw [exec_Assign_Name_used _ _ _ _ hsw];refine wpAny_bind (wpAny_standAt (wpAny_bind ?_))
  show wpAny _ _ (do let _ <-comprehension (.ListComp elt [⟨tg,iter,tl.toList,0⟩] scope pos) scope X.env _ (newList []) false (eval iter X.env) (some (assign (.Name y py) X.env))) _ _ s
  refine wpAny_bind (wpAny_mono (wpAny_comprehension_free (use:=some (assign (.Name y py) X.env)) (Q:=fun _ s'=>SP X pins D .next s') rfl hs (YT fun y hy hf=>I.ok.has y.1 ((k.all y hy).2.2 hf)) k.kind (fun y hy hl=>((k.all y hy).1 hl).2) ?_)
   (fun _ s' hq=>wpAny_pure (wpAny_pure hq)) fun _ _ e=>e)
  refine thn (hi pins s σ H _ I h) fun v s1 h1=>thn h1 fun itv s2 h2=>?_;obtain⟨it,fp,tn,J,H2,e,I2,T,st2,f2,q⟩:=h2;subst e;refine YR (Q:=fun v H1=>D.nx (σ.set j (some v)) H1) (RR:=fun acc C=>compPost (model X.prog X.w) X.A X.xe (some (assign (.Name y py) X.env)) (fun _ s'=>SP X pins D .next s') acc C) hc k hn hg ht he I2 T st2 f2 q ?_;intro Da C s' H' m I' n' f' q';obtain⟨o,es,ep,ho,hd,r⟩:=id n'
  have Ip:Inv X (pins++Yi [C] s'.heap) σ H' s':=I'.pinned (fun b hb=>by
   have e:b=C:=by simpa using hb
   subst e
   exact f') fun b hb=>by
    have e:b=C:=by simpa using hb
    subst e
    exact⟨o,ho,fun v z=>by rw [hd]at z;cases z⟩
  refine thn (Yj (i:=j) hN hj hy hfn _ s' σ H' (.ref Da) (.ref Da) _ Ip rfl q') fun _ s'' ⟨σ2,H2',J2,q2⟩=>?_
  have pc:=J2.pin (C,o) (List.mem_append_right _ (List.mem_append_right _ (Zn (by simp) ho)))
  refine⟨m,⟨o,es,ep,pc.1,hd,r⟩,fun h' sb=>?_⟩;exact⟨σ2,H2',J2.unpinned.turned (t':=s''.toks) (fun b ob hb e=>sb.extBut b ob hb e) pc.2.1 f'.2.1 f'.2.2.2.1 f'.2.2.2.2.1 f'.2.2.2.2.2,q2⟩
end
end L2
namespace L2
open PySem
open Sem (wp)
open AutoSeq1 (wpAny_loadPart')
section
variable {prog:Program}{w:World}{A:Around}{E:Value->Shared->Prop}{s:Shared}
theorem Jc{Q:List Value->Shared->Prop}{r:Addr}{a b c:Int}{t u v:Tok}{n:Nat}(hh:A.handled=none)(hr:IsRange s.heap r a b c t u v)(hsmall:Builtin.Range.small a b c=true)
  (hn:Builtin.Range.rangeSize a b c=n) (hlen:n<=2 ^ 24)
  (hQ:∀(h':Heap) (tk:Nat) (acc:Array Value),(∀b o,s.heap.get? b=some o->h'.get? b=some o)->ItemsOf (fun i v=>∃t,v=.int (a+i*c) t) acc n->Q acc.toList { s with heap:=h',toks:=tk }):
  wpAny (model prog w) A (collect (.ref r)) Q E s:=by
 unfold collect;refine wpAny_bind (wpAny_runValue (codeAny_builtin F.entry_proto_collect ?_));rw [Around.under_plainId F.plain_proto_collect _];show wpAny _ A.in1 (newList [] >>= fun l=>again (.builtin "list.__iadd__" ⟨[l,.ref r],[]⟩)) _ _ s;refine wpAny_bind (wpAny_newObj_type ?_);refine wpAny_pure ⟨plainId_quiet F.plain_list_iadd _,codeAny_builtin F.entry_list_iadd ?_⟩;rw [Around.under_plainId F.plain_list_iadd _];show wpAny _ A.in1 (Builtin.List.listExtendWith (.ref s.heap.objs.size) (.ref r) (.ref s.heap.objs.size)) _ _ _;have hS:(s.heap.push { cls:=.type "list",data:=.seq ([]:List Value).toArray }).get? s.heap.objs.size=some { cls:=.type "list",data:=.seq #[] 0 }:=Heap.get?_push_size _ rfl;have hr':IsRange (s.heap.push { cls:=.type "list",data:=.seq ([]:List Value).toArray }) r a b c t u v:=Heap.get?_push_of_some _ hr
 have fin':∀(s':Shared) (acc:Array Value) (c':Nat),s'.heap.get? s.heap.objs.size=some { cls:=.type "list",dict:=none,data:=.seq acc c',slots:=#[] }->Q acc.toList s'->wpAny (model prog w) A (match Value.ref s.heap.objs.size with
   | Value.ref a=>do
    match (<-load a).data with
     | Data.seq xs _=>pure xs.toList
     | _=>unsupported "internal:collect"
   | _=>unsupported "internal:collect") Q E s':=fun s' acc c' hS' q=>by
  show wpAny _ A (load s.heap.objs.size >>= _) _ _ _;refine wpAny_bind (wpAny_load hS' ?_);exact wpAny_pure q
 refine wpAny_mono (wpAny_extend_range (A := A) (R := fun r s' => r = .ok (.ret (.ref s.heap.objs.size)) /\ ∃ acc c', s'.heap.get? s.heap.objs.size = some { cls := .type "list", dict := none, data := .seq acc c', slots := #[] } /\ Q acc.toList s')
  (s:={ s with heap:=s.heap.push { cls:=.type "list",data:=.seq ([]:List Value).toArray } }) hh hr' hsmall hn hlen _ _ 0 hS fun h' tk acc c' kp hS' hacc =>
   ⟨rfl,acc,c',hS',hQ h' tk acc (fun b o e=>kp b o (Nat.ne_of_lt (Heap.lt_size e)) (Heap.get?_push_of_some _ e)) hacc⟩) (fun fin s' h=>?_) (fun e s' h=>?_)
 ·cases fin with
  | done f =>
   obtain⟨e,acc,c',h1,h2⟩:=h;cases e;exact fin' s' acc c' h1 h2
  | again c'=>exact⟨h.1,codeAny_mono h.2 fun r s'' hr=>by obtain⟨rfl,acc,c',h1,h2⟩:=hr;exact fin' s'' acc c' h1 h2⟩
 ·exact absurd h.1 (by simp)
theorem Zy{Q₁:Value->Shared->Prop}{r:Addr}{a b c:Int}{t u v:Tok}{n:Nat}(hh:A.handled=none)(hr:IsRange s.heap r a b c t u v)(hsmall:Builtin.Range.small a b c=true)
  (hn:Builtin.Range.rangeSize a b c=n) (hlen:n<=2 ^ 24) (hsz:n<=sizeLine)
  (h:∀(h':Heap) (tk:Nat) (acc:Array Value),(∀b o,s.heap.get? b=some o->h'.get? b=some o)->ItemsOf (fun i v=>∃t,v=.int (a+i*c) t) acc n->Q₁ (.ref h'.objs.size) { s with heap:=h'.push { cls:=.type "tuple",data:=.seq acc },toks:=tk }):
  codeAny (model prog w) A (.call (.builtin "tuple.__new__") ⟨[.type "tuple",.ref r],[]⟩) (wants Q₁ E) s:=by
 refine codeAny_of_tree ?_
 show wpAny _ A.in1 (do checkBuiltinCall "tuple.__new__" ⟨[.type "tuple",.ref r],[]⟩;again (.builtin "tuple.__new__" ⟨[.type "tuple",.ref r],[]⟩)) _ _ s
 refine wpAny_bind (wpAny_of_eq (F.newCall_tuple_1 _) (wpAny_pure ⟨plainId_quiet F.plain_tuple_new _,codeAny_builtin F.entry_tuple_new ?_⟩));rw [Around.under_plainId F.plain_tuple_new _];have hsub:=sub_tuple_self;have hinit:=init_tuple_lookup;have hmh:=madeHere_tuple;have hTI:s.TypeIs (.ref r) "range":=⟨_,hr,rfl⟩;have hh1:A.in1.handled=none:=hh
 wp_walk using wpAny_typeOf hTI,Jc hh1 hr hsmall hn hlen
 intro h' tk acc kp hacc;show wpAny _ _ (Builtin.Tuple.tupleExact acc.toList.toArray >>= fun v=>ret v) _ _ _;unfold Builtin.Tuple.tupleExact
 refine wpAny_bind (wpAny_newObj_type ?_ (by show acc.toList.toArray.size<=sizeLine;simp only [Array.toArray_toList];rw [hacc.1];exact hsz))
 refine wpAny_pure ?_
 have e:acc.toList.toArray=acc:=by simp
 rw [e];exact h h' tk acc kp hacc
theorem Z2{Q:Value->Shared->Prop}{r:Addr}{a b c:Int}{t u v:Tok}{n:Nat}(hh:A.handled=none)(hr:IsRange s.heap r a b c t u v)(hsmall:Builtin.Range.small a b c=true)
  (hn:Builtin.Range.rangeSize a b c=n) (hlen:n<=2 ^ 24) (hsz:n<=sizeLine)
  (hQ:∀(h':Heap) (tk:Nat) (acc:Array Value),(∀b o,s.heap.get? b=some o->h'.get? b=some o)->ItemsOf (fun i v=>∃t,v=.int (a+i*c) t) acc n->Q (.ref h'.objs.size) { s with heap:=h'.push { cls:=.type "tuple",data:=.seq acc },toks:=tk }):
  wpAny (model prog w) A (call (.type "tuple") [.ref r]) Q E s:=by
 refine callType_codes (Q₁ := fun obj s₁ => s₁.TypeIs obj "tuple" /\ Q obj s₁) F.called_tuple (F.typeCall_tuple_1 _) F.entry_object_init
  (Zy hh hr hsmall hn hlen hsz fun h' tk acc kp hacc=>⟨⟨_,Heap.get?_push_size _ rfl,rfl⟩,hQ h' tk acc kp hacc⟩) fun obj s₁ h₁=>?_
 exact⟨h₁.1,F.args_object_init_2 obj _,object_init_meets F.called_tuple.init.lookup F.called_tuple.made (by decide) prog w A.in1 _ s₁ ⟨h₁.1,rfl,h₁.2⟩⟩
end
end L2
namespace L2
open PySem PySem.Spec PyProof.Rows
section
variable {X:Cx}
noncomputable def QlD(K:PySem.W.Frag)(te:TE):TE:=fun σ H Q=>te σ H fun x H1=>∃a xs,x=.ref a/\SqL K H1 a xs/\∀p,H1 p=none->Q (.ref p) (upd H1 p (.lst xs.reverse))
theorem Qil{e:Expr}{te:TE}{j:Nat}{p1 p3 p2 pos:Pos}(he:PE X e te):PE X (.Subscript e (.Slice none none (some (.UnaryOp .USub (.Constant (.int 1) j p1) p3)) p2) pos) (QlD X.K te):=by
 intro pins s σ H Q I h;refine Subscript_ (thn (he pins s σ H _ I h) fun v s1 ⟨x,H1,I1,r1,q1⟩=>?_);have hk:PO X (some (.UnaryOp .USub (.Constant (.int 1) j p1) p3)) (Qhx (tUn (rU fun i=>.int (-i)) (tC (.int 1)))):=QbS (Qij Qe4 QaN);refine wpAny_Slice ?_;rw [evalPart_none];refine wpAny_pure ?_;refine wpAny_pure ?_;refine thn (hk pins s1 σ H1 (fun o H2=>o=some (-1)/\H2=H1) I1 ⟨1,rfl,-1,rfl,rfl,rfl⟩) fun vk s3 ⟨o,H3,I3,pk,eo,eH⟩=>?_;subst eo eH;have I4:Inv X pins σ H3 { s3 with heap:=s3.heap.push { cls:=.type "slice",data:=.fields #[.none,.none,vk] } }:=I3.kept (t':=s3.toks) fun b ob q=>Heap.get?_push_of_some _ q;obtain⟨a,xs,rfl,hq,q⟩:=q1;cases r1;obtain⟨its,r,ht,hz⟩:=I4.list hq;have hlen:=r.length;show wpAny (model X.prog X.w) X.A (subscriptTail e (.Slice none none (some (.UnaryOp .USub (.Constant (.int 1) j p1) p3)) p2) (.ref a) (.ref s3.heap.objs.size)) (EP X pins σ Q) X.xe { s3 with heap:=s3.heap.push { cls:=.type "slice",data:=.fields #[.none,.none,vk] } }
 refine tail_any (ops:=[.ref a,.ref s3.heap.objs.size]) ht.isList.typeIs slot_list_getitem.lookup ?_ (by with_unfolding_all rfl)
 refine wpAny_getItem_list_slice ht.isList (Heap.IsSliceOf.new ..) .none .none pk (by simp) ?_ (by rw [List.size_toArray]<;>omega)
 rw [PySem.W.krv_pick];refine⟨.ref _,_,I4.laid (t':=s3.toks) (o:=.lst xs.reverse) (fun b ob q=>Heap.get?_push_of_some _ q) (Nat.le_refl _) ?_,rfl,q _ (I4.hok.fresh (Nat.le_refl _))⟩
 exact⟨by rw [List.length_reverse];exact hz,_,0,by simpa using r.reverse,Heap.get?_push_size _ rfl⟩
noncomputable def Qc0(a:Int)(n:Nat)(c:Int):List V:=(List.range n).map fun i:Nat=>V.int (a+(i:Int)*c)
theorem Qd6{a c:Int}{n:Nat}{acc:Array Value}(h:ItemsOf (fun i v=>∃t,v=Value.int (a+i*c) t) acc n):Vals (Qc0 a n c) acc.toList:=by
 have all:∀(k:Nat) (l:List Value) (b:Nat),l.length=k->(∀j v,l[j]?=some v->∃t,v=Value.int (a+((b+j:Nat):Int)*c) t)->Vals ((List.range' b k).map fun i:Nat=>V.int (a+(i:Int)*c)) l:=by
  intro k
  induction k with
  | zero =>
   intro l b hl _
   cases l with
   | nil=>exact .nil
   | cons _ _=>cases hl
  | succ k ih =>
   intro l b hl hv
   cases l with
   | nil=>cases hl
   | cons x r =>
    rw [List.range'_succ,List.map_cons]
    refine .cons ?_ (ih r (b+1) (by simpa using hl) fun j v e=>?_)
    ·obtain⟨t,e⟩:=hv 0 x rfl
     exact⟨t,by simpa using e⟩
    ·obtain⟨t,e'⟩:=hv (j+1) v (by simpa using e)
     refine⟨t,?_⟩
     rw [e',show b+1+j=b+(j+1) by omega]
 unfold Qc0;rw [List.range_eq_range']
 refine all n acc.toList 0 (by simpa using h.1) fun j v e=>?_
 obtain⟨t,e'⟩:=h.2 j v (by simpa using e)
 exact⟨t,by simpa using e'⟩
theorem J0{a c:Int}{n:Nat}:(Qc0 a n c).length=n:=by simp [Qc0]
noncomputable def JV(a b c:Int):Nat:=if c=1 then(b-a).toNat else(a-b).toNat
theorem QfX{a b c:Int}(h:c=1\/c=-1):Builtin.Range.rangeSize a b c=(JV a b c:Nat):=by
 unfold JV
 rcases h with rfl | rfl
 ·rw [rangeSize_one,if_pos rfl];split<;>omega
 ·unfold Builtin.Range.rangeSize
  rw [if_neg (show ¬((-1:Int) > 0) by decide),if_neg (show ¬((-1:Int)=1) by decide),show(-(-1:Int))=1 by decide,Int.ediv_one]
  split<;>omega
theorem QdY{a b:Int}(ha:-(2 ^ 62)<=a)(ha':a<2 ^ 62)(hb:-(2 ^ 62)<=b)(hb':b<2 ^ 62):Builtin.Range.small a b (-1)=true:=by
 have e:Builtin.Range.rangeSize a b (-1)=if a>b then a-b else 0:=by
  unfold Builtin.Range.rangeSize
  rw [if_neg (show ¬((-1:Int) > 0) by decide),show(-(-1:Int))=1 by decide,Int.ediv_one]
  split<;>omega
 unfold Builtin.Range.small;rw [e]
 simp only [Builtin.Range.rangeFitsLong,Bool.and_eq_true,Bool.or_eq_true,decide_eq_true_eq,beq_iff_eq,show ¬((-1:Int) > 0) by decide,if_false]
 split<;>omega
noncomputable def rngA:List V->Option (Int×Int×Int)
 | [.int b]=>some (0,b,1)
 | [.int a,.int b]=>some (a,b,1)
 | [.int a,.int b,.int c]=>some (a,b,c)
 | _=>none
noncomputable def QjH(ta:TA):TE:=fun σ H Q=>ta σ H fun vs H1=>∃a b c:Int,rngA vs=some (a,b,c)/\(-(2 ^ 62)<=a/\a<2 ^ 62/\-(2 ^ 62)<=b/\b<2 ^ 62)/\(c=1\/c=-1)/\JV a b c<=sizeLine/\JV a b c<=2 ^ 24 /\
 ∀p,H1 p=none->Q (.ref p) (upd H1 p (.tup (Qc0 a (JV a b c) c)))
theorem Qd7{pins:List (Addr×Obj)}{s:Shared}{σ:St}{H:Hp}{vs:List V}{us:List Value}{a b c:Int}{E:Value->Shared->Prop}(I:Inv X pins σ H s)(r:Vals vs us)(h:rngA vs=some (a,b,c))(hc:c=1\/c=-1):
  wpAny (model X.prog X.w) X.A (call (.type "range") us) (fun v s' => ∃ r t u w, v = .ref r /\ Inv X pins σ H s' /\ IsRange s'.heap r a b c t u w) E s := by
 have fin : ∀ {t u v : Tok} {tk : Nat}, ∃ (r : Addr) (t' u' w' : Tok), Value.ref s.heap.objs.size = .ref r /\ Inv X pins σ H { s with heap := s.heap.push { cls := .type "range", data := .fields #[.int a t, .int b u, .int c v] }, toks := tk } /\
   IsRange (s.heap.push { cls:=.type "range",data:=.fields #[.int a t,.int b u,.int c v] }) r a b c t' u' w':=fun {t u v tk}=>⟨_,_,_,_,rfl,I.kept fun b o e=>Heap.get?_push_of_some _ e,IsRange.new ..⟩
 unfold rngA at h;split at h
 ·cases h;obtain⟨x,rfl,t,rfl⟩:=r.one;exact call_range_1 fin
 ·cases h;obtain⟨x,y,rfl,⟨t,rfl⟩,u,rfl⟩:=r.two;exact call_range_2 fin
 ·cases h
  cases r with
  | cons r1 r =>
   obtain⟨x,y,rfl,⟨t,rfl⟩,u,rfl⟩:=Vals.two r;obtain⟨w,rfl⟩:=r1
   refine call_range_3 (by rcases hc with rfl | rfl<;>decide) fin (.inl (PyProof.noPylong_small ?_))
   rcases hc with rfl | rfl<;>decide
 ·cases h
theorem Qgc{a0:Expr}{args:List Expr}{ta:TA}{p q pos pos2:Pos}(hc:X.calm=true)(hg:Gl X "tuple") (hm:X.mg "tuple"=none) (hg2:Gl X "range") (hm2:X.mg "range"=none) (ha:PA X (a0::args) ta)
  (he:starEach (a0::args) X.env=(false,eval a0 X.env)::starEach args X.env) (hpl:(backTo pos2 (starEach args X.env)).any (·.1)=false):
  PE X (.Call (.Name "tuple" p) [.Call (.Name "range" q) (a0::args) [] pos2] [] pos) (QjH ta):=by
 intro pins s σ H Q I h;refine wpAny_Call_Name_kw (Zz I hg hm PyProof.Rows.boot_tuple ?_);refine PyProof.Rows.callWith_type1 (e:=.Call (.Name "range" q) (a0::args) [] pos2) (rest:=[]) ?_ rfl rfl;show wpAny _ _ (spliced ((false,eval (.Call (.Name "range" q) (a0::args) [] pos2) X.env)::backTo pos (starEach [] X.env))) _ _ s;refine Calls.spliced_cons ?_;refine wpAny_Call_Name_kw (Zz I hg2 hm2 boot_range ?_);refine PyProof.Rows.callWith_type1 (thn (ha pos2 pins s σ H _ I h) fun us s1 ⟨vs,H1,I1,r1,q1⟩=>?_) he hpl;obtain⟨a,b,c,hv,⟨b1,b2,b3,b4⟩,h1,hz,h24,q⟩:=q1;refine thn (Qd7 I1 r1 hv h1) fun v s2 ⟨r,t,u,w,e,I2,hr⟩=>?_;subst e;refine Calls.spliced_nil ?_
 have hs:Builtin.Range.small a b c=true:=by
  rcases h1 with rfl | rfl
  ·exact small_one b1 b2 b3 b4
  ·exact QdY b1 b2 b3 b4
 refine Z2 (I2.ok.hd hc) hr hs (QfX h1) h24 hz fun h' tk acc kp hacc=>?_;have I3:Inv X pins σ H1 { s2 with heap:=h',toks:=tk }:=I2.kept kp;have rv:=Qd6 hacc;refine⟨.ref h'.objs.size,_,I3.laid (t':=tk) (o:=.tup (Qc0 a (JV a b c) c)) (fun b o e=>Heap.get?_push_of_some _ e) (Nat.le_refl _) ?_,rfl,q _ (I3.hok.fresh (Nat.le_refl _))⟩;show ObjOk X.prog X.w _ _ _ (.tup _)
 exact⟨by rw [J0];exact hz,acc.toList,rv,by simpa using IsTup.new h' acc⟩
end
end L2
namespace L2
open PySem PySem.Spec PyProof.Rows
open Sem (wp)
section
variable {prog:Program}{w:World}{A:Around}{E:Value->Shared->Prop}{s:Shared}
theorem Qcb:typeLookup (.type "list_reverseiterator") "__len__"=pure none:=by rw [typeLookup_type,builtinLookup_eq_fast];kernel_rfl
theorem Qet:typeLookup (.type "list_reverseiterator") "__length_hint__"=pure (some (.builtin "list_reverseiterator.__length_hint__")):=by rw [typeLookup_type,builtinLookup_eq_fast];kernel_rfl
theorem Qbn{R:Result->Shared->Prop}{I l:Addr}{items:Array Value}(hh:A.handled=none)(hit:s.heap.IsRevIter I l ((items.size:Int) - 1))(hl:s.heap.IsList l items)(hne:l≠I)(hn:items.size<=sizeLine)(S:Addr)(res:Value)(c₀:Nat)
  (hS:s.heap.get? S=some { cls:=.type "list",data:=.seq #[] c₀ }) (hSI:S≠I) (hSl:S≠l)
  (hR:∀h' tk acc' c',(∀b o,b≠S->b≠I->s.heap.get? b=some o->h'.get? b=some o)->h'.get? S=some { cls:=.type "list",dict:=none,data:=.seq acc' c',slots:=#[] } ->
   ItemsOf (fun i v=>items[items.size-1-i]?=some v) acc' items.size->R (.ok (.ret res)) { s with heap:=h',toks:=tk }):
  wpAny (model prog w) A.in1 (Builtin.List.listExtendWith (.ref S) (.ref I) res)
   (fun fin s'=>match fin with | .done f=>R (.ok f) s' | .again c'=>c'.quiet=true/\codeAny (model prog w) A c' R s') (fun e s'=>R (.error e) s') s:=by
 have hTy:s.TypeIs (.ref I) "list_reverseiterator":=hit.typeIs;have W:=(Walks.listRev (prog:=prog) (w:=w) (A:=A.in1) hh I l hne items).toS
 have hSf:S∉[I,l]:=fun hm=>by
  rcases List.mem_cons.mp hm with e | hm
  ·exact hSI e
  ·exact hSl (List.mem_singleton.mp hm)
 unfold Builtin.List.listExtendWith;refine wpAny_bind (wpAny_typeOf hTy ?_)
 have h1:Builtin.List.listSameRef (.ref S) (.ref I)=false:=by simp [Builtin.List.listSameRef,hSI]
 have h2:(Value.type "list_reverseiterator"==Value.type "list")=false:=by decide
 have h3:(Value.type "list_reverseiterator"==Value.type "tuple")=false:=by decide
 simp only [h1,h2,h3,Bool.or_false,Bool.false_eq_true,if_false];refine wpAny_bind (wpAny_pyIter_revIter hit ?_);refine wpAny_bind (wpAny_holding ?_);unfold Builtin.List.listLengthHint;refine wpAny_bind (wpAny_specialOf hTy Qcb ?_);show wpAny _ A.in1 (specialOf (Value.ref I) (Str.ofString "__length_hint__") >>= _) _ _ _;refine wpAny_bind (wpAny_specialOf hTy Qet ?_);generalize hid:("list_reverseiterator.__length_hint__":String)=id0
 wp_delta
 rw [show splitId id0=some ("list_reverseiterator","__length_hint__")from by subst hid;decide +kernel]
 subst hid
 refine wpAny_bind (wpAny_isInstance (T:="list_reverseiterator") (b:=true) hTy (by rw [isSubtype_type];kernel_rfl) ?_)
 refine wpAny_ite_split (fun hab=>absurd hab (by decide)) (fun _=>?_)
 refine wpAny_ite_split (fun _=>?_) (fun hab=>absurd (by decide +kernel) hab)
 refine wpAny_ite_split (fun hab=>absurd hab (by decide +kernel)) (fun _=>?_)
 refine wpAny_pure ?_
 rw [if_neg (by decide)]
 refine wpAny_pure ⟨plainId_quiet F.plain_extend_loop _,codeAny_extend_loopS W hn S hSf res items.size 0 _ #[] c₀ rfl (Nat.zero_le _) ⟨Nat.zero_le _,by simpa using hit,hl⟩ hS (ItemsOf.nil _) fun s' acc' c' hm hS' hacc=>?_⟩
 rw [Moved.eq_with hm];refine hR s'.heap s'.toks acc' c' (fun b o hb hb2 e=>hm.heap b o (fun hmem=>?_) e) hS' hacc
 rcases List.mem_cons.mp hmem with e' | hmem
 ·exact hb e'
 ·exact hb2 (List.mem_singleton.mp hmem)
theorem Jf{Q:Value->Shared->Prop}{I l:Addr}{items:Array Value}(hh:A.handled=none)(hit:s.heap.IsRevIter I l ((items.size:Int) - 1))(hl:s.heap.IsList l items)(hne:l≠I)(hn:items.size<=sizeLine)
  (hQ:∀h' tk acc' c',(∀b o,b≠I->s.heap.get? b=some o->h'.get? b=some o) ->
   h'.get? s.heap.objs.size=some { cls:=.type "list",dict:=none,data:=.seq acc' c',slots:=#[] }->ItemsOf (fun i v=>items[items.size-1-i]?=some v) acc' items.size->Q (.ref s.heap.objs.size) { s with heap:=h',toks:=tk }):
  wpAny (model prog w) A (call (.type "list") [.ref I]) Q E s:=by
 refine callType_codes (Q₁ := fun obj s₁ => obj = .ref s.heap.objs.size /\ s₁ = { s with heap := s.heap.push { cls := .type "list", data := .seq #[] } }) F.called_list (F.typeCall_list_1 _) F.entry_list_init
  (code_list_new _ ⟨rfl,rfl⟩) fun obj s₁ h₁=>?_
 obtain⟨rfl,rfl⟩:=h₁;have hS:(s.heap.push { cls:=.type "list",data:=.seq #[] }).get? s.heap.objs.size=some { cls:=.type "list",data:=.seq #[] }:=Heap.get?_push_size _ rfl
 have hI:s.heap.objs.size≠I:=by
  obtain⟨o,e,_⟩:=hit;exact Ne.symm (Nat.ne_of_lt (Heap.lt_size e))
 have hL:s.heap.objs.size≠l:=by
  obtain⟨o,e,_⟩:=hl;exact Ne.symm (Nat.ne_of_lt (Heap.lt_size e))
 refine⟨⟨_,hS,rfl⟩,F.args_list_init_2 _ _,?_⟩
 show wpAny _ _ (do let old <-Builtin.List.listItems (.ref s.heap.objs.size);Builtin.List.listUpdate (.ref s.heap.objs.size) (fun _=>#[]);letGo old.toList.reverse;Builtin.List.listExtendWith (.ref s.heap.objs.size) (.ref I) .none) _ _ _
 refine wpAny_bind ?_;unfold Builtin.List.listItems;refine wpAny_bind (wpAny_seqItems hS rfl (wpAny_pure ?_));show wpAny _ _ (updateSeq s.heap.objs.size (fun _=>#[]) >>= fun _=>letGo (#[]:Array Value).toList.reverse >>= fun _=>Builtin.List.listExtendWith (.ref s.heap.objs.size) (.ref I) .none) _ _ _;refine wpAny_bind (wpAny_updateSeq hS rfl ?_);have hS₂:=Heap.get?_update_self (Obj.mapSeq (fun _=>(#[]:Array Value))) hS rfl
 have oth:∀b o,s.heap.get? b=some o->((s.heap.push { cls:=.type "list",data:=.seq #[] }).update s.heap.objs.size (Obj.mapSeq (fun _=>(#[]:Array Value)))).get? b=some o :=
  fun b o e=>(Heap.get?_update_other _ _ (Ne.symm (Nat.ne_of_lt (Heap.lt_size e)))).trans (Heap.get?_push_of_some _ e)
 refine wpAny_bind (wpAny_letGo ?_);refine Qbn (A:=A.in1) hh (l:=l) (items:=items) ?_ ?_ hne hn _ .none _ hS₂ hI hL fun h' tk acc' c' hk hS' hacc=>?_
 ·exact hit.at fun o e=>oth _ _ e
 ·exact hl.at fun o e=>oth _ _ e
 ·exact⟨rfl,hQ h' tk acc' c' (fun b o hb e=>hk b o (Nat.ne_of_lt (Heap.lt_size e)) hb (oth b o e)) hS' hacc⟩
end
section
variable {X:Cx}
theorem Qd8{xs:List V}{its:List Value}{acc:Array Value}(r:Vals xs its)(h:ItemsOf (fun i v=>its.toArray[its.toArray.size-1-i]?=some v) acc its.toArray.size):Vals xs.reverse acc.toList:=by
 have e:acc.toList=its.reverse:=by
  refine List.ext_getElem? fun i=>?_;by_cases hi:i<its.length
  ·rw [List.getElem?_reverse hi]
   have hs:acc.size=its.length:=by simpa using h.1
   have hi':i<acc.size:=by omega
   have h1:=h.2 i acc[i] (by simp [hi'])
   simp only [List.getElem?_toArray,List.size_toArray]at h1;rw [h1];simp [hi']
  ·have hs:acc.size=its.length:=by simpa using h.1
   rw [List.getElem?_eq_none (by simp;omega),List.getElem?_eq_none (by simp;omega)]
 rw [e];exact r.reverse
theorem Qge{e:Expr}{te:TE}{p q pos pos2:Pos}(hc:X.calm=true)(hg:Gl X "list") (hm:X.mg "list"=none) (hg2:Gl X "reversed") (hm2:X.mg "reversed"=none) (he:PE X e te) (hs:starEach [e] X.env=[(false,eval e X.env)]):
  PE X (.Call (.Name "list" p) [.Call (.Name "reversed" q) [e] [] pos2] [] pos) (QlD X.K te):=by
 intro pins s σ H Q I h;refine wpAny_Call_Name_kw (Zz I hg hm PyProof.Rows.boot_list ?_);refine PyProof.Rows.callWith_type1 (e:=.Call (.Name "reversed" q) [e] [] pos2) (rest:=[]) ?_ rfl rfl;show wpAny _ _ (spliced ((false,eval (.Call (.Name "reversed" q) [e] [] pos2) X.env)::backTo pos (starEach [] X.env))) _ _ s;refine Calls.spliced_cons ?_;refine wpAny_Call_Name_kw (Zz I hg2 hm2 boot_reversed ?_);refine PyProof.Rows.callWith_type1 (e:=e) (rest:=[]) ?_ hs rfl;rw [hs];show wpAny _ _ (spliced ((false,eval e X.env)::backTo pos2 (starEach [] X.env))) _ _ s;refine Calls.spliced_cons (thn (he pins s σ H _ I h) fun u s1 ⟨x,H1,I1,rx,q1⟩=>?_);refine Calls.spliced_nil ?_;obtain⟨a,xs,ev,hq,q⟩:=q1;subst ev;cases rx;obtain⟨its,rv,pl,hz⟩:=I1.list hq;refine call_reversed_list pl.isList ?_;refine Calls.spliced_nil ?_;have I2:Inv X pins σ H1 { s1 with heap:=s1.heap.push (revObj a ((its.toArray.size:Int) - 1)) }:=I1.kept (t':=s1.toks) fun b o e=>Heap.get?_push_of_some _ e
 have st:(s1.heap.push (revObj a ((its.toArray.size:Int) - 1))).IsRevIter s1.heap.objs.size a ((its.toArray.size:Int) - 1):=⟨_,Heap.get?_push_size _ rfl,rfl,by simp [revObj]⟩
 have hl:(s1.heap.push (revObj a ((its.toArray.size:Int) - 1))).IsList a its.toArray:=pl.isList.at fun o e=>Heap.get?_push_of_some _ e
 have hne:a≠s1.heap.objs.size:=by
  obtain⟨o,e,_⟩:=pl.isList;exact Nat.ne_of_lt (Heap.lt_size e)
 refine Jf (I2.ok.hd hc) st hl hne (by rw [List.size_toArray,<-rv.length];exact hz) fun h' tk acc c' kp hS hacc=>?_
 have e1:(s1.heap.push (revObj a ((its.toArray.size:Int) - 1))).objs.size=s1.heap.objs.size+1:=by simp [Heap.push]
 have hS':=hS
 refine⟨.ref _,_,I1.laid (t':=tk) (o:=.lst xs.reverse) (a:=(s1.heap.push (revObj a ((its.toArray.size:Int) - 1))).objs.size) (fun b o e=>kp b o (Nat.ne_of_lt (Heap.lt_size e)) (Heap.get?_push_of_some _ e)) (by rw [e1];exact Nat.le_succ _) ?_,rfl,q _ (I1.hok.fresh (a:=(s1.heap.push (revObj a ((its.toArray.size:Int) - 1))).objs.size) (by rw [e1];exact Nat.le_succ _))⟩
 exact⟨by rw [List.length_reverse];exact hz,acc.toList,c',Qd8 rv hacc,by simpa using hS⟩
noncomputable def Its(x:PySem.Str):It:=⟨fun i _=>i<x.cps.size,fun i H y H'=>H'=H/\∃c,x.cps[i]?=some c/\y=.str ⟨#[c]⟩,fun i _=>x.cps.size<=i⟩
theorem Qc5 {P : Program} {w : World} {K : PySem.W.Frag} {tg : Expr} (x : PySem.Str) (tk : Tok) (it : Addr) (n : String) (hn : n = "str_ascii_iterator" \/ n = "str_iterator") : Turn P w K tg (Its x) [it] it (fun i h => h.IsStrIter it n x tk i) where
 mem:=by simp
 obj:=fun i h st b hb=>by
  have e:b=it:=by simpa using hb
  subst e;obtain⟨o,e,c,d⟩:=st
  exact⟨o,e,fun v z=>by rw [d]at z;cases z⟩
 keep:=fun i h h' st k=>by
  obtain⟨o,e,r⟩:=st
  exact⟨o,k it (by simp) o e,r⟩
 item:=by
  intro X hP hw hK hc i pins s σ H E I hf st hg;subst hP hw hK
  obtain⟨f0,f1,f2,f3,f4,f5⟩:=hf it (by simp)
  have hg:i<x.cps.size:=hg;have hx:x.cps[i]?=some x.cps[i]:=Array.getElem?_eq_getElem hg
  have fin:∀h',h'.IsStrIter it n x tk (i+1)->Heap.SameBut it s.heap h'->∃u,some (Value.str ⟨#[x.cps[i]]⟩ s.toks)=some u /\
    wpAny (model X.prog X.w) X.A (letOwnedTupleGo tg (.ref it) u) (fun _ s2=>∃y H',Inv X pins σ H' s2/\RelV y u/\(Its x).yld i H y H'/\s2.heap.IsStrIter it n x tk (i+1)/\∀b∈[it],H' b=none) E { s with heap:=h',toks:=s.toks+1 }:=by
   intro h' st' sb;have I1:Inv X pins σ H { s with heap:=h',toks:=s.toks+1 }:=I.turned (t':=s.toks+1) (fun b o hb e=>(sb.2 b hb).trans e) f0 f1 f3 f4 f5;obtain⟨o,e,c,d⟩:=id st'
   exact⟨_,rfl,Qcr (s:={ s with heap:=h',toks:=s.toks+1 }) e c d (by rcases hn with rfl | rfl<;>decide) ⟨.str ⟨#[x.cps[i]]⟩,H,I1,⟨_,rfl⟩,⟨rfl,_,hx,rfl⟩,st',fun b hb=>(hf b hb).1⟩⟩
  rcases hn with rfl | rfl
  ·exact wpAny_pyNext_ascii_item st hx fin
  ·exact wpAny_pyNext_wide_item st hx fin
 done:=by
  intro X hP hw hK hc i pins s σ H E I hf st hg;subst hP hw hK;have hg:x.cps.size<=i:=hg;have hx:x.cps[i]?=none:=Array.getElem?_eq_none hg
  obtain⟨f0,f1,f2,f3,f4,f5⟩:=hf it (by simp)
  rcases hn with rfl | rfl
  ·exact wpAny_pyNext_ascii_end (I.ok.hd hc) st hx fun h' eb=>⟨rfl,I.turned (t':=s.toks) (fun b o hb e=>eb b o hb e) f0 f1 f3 f4 f5⟩
  ·exact wpAny_pyNext_wide_end (I.ok.hd hc) st hx fun h' eb=>⟨rfl,I.turned (t':=s.toks) (fun b o hb e=>eb b o hb e) f0 f1 f3 f4 f5⟩
 self:=fun _ _ _ _ _ st h=>by
  rcases hn with rfl | rfl
  ·exact wpAny_pyIter_striter_ascii st h
  ·exact wpAny_pyIter_striter_wide st h
noncomputable def Qnf(te:TE):TI:=fun σ H R=>te σ H fun x H1=>∃t,x=.str t/\R (Its t) H1
theorem Qie{tg e:Expr}{te:TE}(he:PE X e te):PI X tg e (Qnf te):=by
 intro pins s σ H R I h;refine thn (he pins s σ H _ I h) fun u s1 ⟨x,H1,I1,rx,q1⟩=>?_;obtain⟨t,rfl,q⟩:=q1;obtain⟨tk,rfl⟩:=rx
 have fin : ∀ (n : String) (o : Obj), n = "str_ascii_iterator" \/ n = "str_iterator" -> o = { cls := .type n, data := .fields #[.str t tk, .int 0 0] } -> PIE X pins σ tg R (.ref s1.heap.objs.size) { s1 with heap := s1.heap.push o } := by
  intro n o hn ho;subst ho;refine⟨s1.heap.objs.size,[s1.heap.objs.size],_,_,H1,rfl,I1.kept (t':=s1.toks) fun b o e=>Heap.get?_push_of_some _ e,Qc5 t tk _ n hn,⟨_,Heap.get?_push_size _ rfl,rfl,rfl⟩,fun b hb=>?_,q⟩
  have e:b=s1.heap.objs.size:=by simpa using hb
  subst e;exact I1.fpOk (Nat.le_refl _) (I1.hok.fresh (Nat.le_refl _))
 cases ha:t.cps.all (· < 128)
 ·exact wpAny_pyIter_wide ha (fin _ _ (.inr rfl) rfl)
 ·exact wpAny_pyIter_ascii ha (fin _ _ (.inl rfl) rfl)
end
end L2
namespace L2
open PySem PySem.Spec PyProof.Rows
section
variable {X:Cx}
end
end L2
namespace Iv
open PySem PySem.Spec PyProof.Rows L2
section
variable {X:Cx}{T:Tbl}{A:Adr}{C:Ctx}{cf:Cf}{m k:Nat}{α:List Addr}{hs:Hs}{H:Hp}{u:U}{v:V}{ρ:Rho}{σ:St}
noncomputable def WJ(A:Adr)(K:PySem.W.Frag)(α:List Addr)(J:It):Wk->Prop
 | .seqL u=>∃a,RU A α u (.ref a)/\J=Itl K a
 | .seqT u=>∃a,RU A α u (.ref a)/\J=Itt K a
 | .rng lo n=>J=Itr lo n
 | .zipB p q x y=>∃a b,RU A α x (.ref a)/\RU A α y (.ref b)/\J=Itz p q K a b
 | .revL _ _=>False
 | .rngC _ _ _=>False
 | .enmL _=>False
 | .strW x=>J=Its ⟨x.toArray⟩
theorem WJ.mono{K:PySem.W.Frag}{J:It}{α':List Addr}{w:Wk}(p:∀(n:Nat) a,α[n]?=some a->α'[n]?=some a)(h:WJ A K α J w):WJ A K α' J w:=by
 cases w with
 | seqL u=>obtain⟨a,r,e⟩:=h;exact⟨a,r.mono p,e⟩
 | seqT u=>obtain⟨a,r,e⟩:=h;exact⟨a,r.mono p,e⟩
 | rng lo n=>exact h
 | zipB b c x y=>obtain⟨a,b,r,r',e⟩:=h;exact⟨a,b,r.mono p,r'.mono p,e⟩
 | revL u n=>exact False.elim h
 | rngC lo c n=>exact False.elim h
 | enmL u=>exact False.elim h
 | strW x=>exact h
noncomputable def gT(K:PySem.W.Frag):Tg->TG
 | .name i=>Y9 i
 | .pair i j=>Ql1 K 2 (QgW (Y9 i) (QgW (Y9 j) Ql2))
theorem YI{b:Bool}{xs:List U}(tx:Txt T A X.K X.mg)(R:Rep T A X.K α hs H)(h:sqU T b u hs=some xs)(r:RU A α u v):∃a vs,v=.ref a/\RUs A α xs vs/\SqB b X.K H a vs:=by
 cases b with
 | true=>exact Q5 tx R h r
 | false=>exact Yb tx R h r
theorem QaY{J:It}{w:Wk}{i:Nat}(tx:Txt T A X.K X.mg)(R:Rep T A X.K α hs H)(W:WJ A X.K α J w)(h:itm T w i hs=some none):J.stop i H:=by
 cases w with
 | seqL u =>
  obtain⟨a,r,rfl⟩:=W;simp only [itm,Option.map_eq_some_iff,Option.map_eq_none_iff]at h;obtain⟨xs,e,h⟩:=h;obtain⟨a',vs,ea,rr,q⟩:=Q5 tx R e r;cases ea
  exact⟨vs,q,by rw [<-rr.length];exact List.getElem?_eq_none_iff.mp h⟩
 | seqT u =>
  obtain⟨a,r,rfl⟩:=W;simp only [itm,Option.map_eq_some_iff,Option.map_eq_none_iff]at h;obtain⟨xs,e,h⟩:=h;obtain⟨a',vs,ea,rr,q⟩:=Yb tx R e r;cases ea
  exact⟨vs,q,by rw [<-rr.length];exact List.getElem?_eq_none_iff.mp h⟩
 | rng lo n =>
  cases(show J=_ from W);simp only [itm,Option.some.injEq]at h;split at h
  ·cases h
  ·rename_i l;show n<=i;omega
 | zipB p q x y =>
  obtain⟨a,b,r1,r2,rfl⟩:=W;simp only [itm]at h;split at h
  case h_2=>cases h
  rename_i xs ys e1 e2;obtain⟨a',vs,ea,rr,q⟩:=YI tx R e1 r1;cases ea;obtain⟨b',ws,eb,rr',q'⟩:=YI tx R e2 r2;cases eb;refine⟨vs,ws,q,q',?_⟩;unfold two at h;rw [<-rr.length,<-rr'.length];by_cases l1:i<xs.length
  ·by_cases l2:i<ys.length
   ·rw [List.getElem?_eq_getElem l1,List.getElem?_eq_getElem l2]at h;cases h
   ·exact .inr (by omega)
  ·exact .inl (by omega)
 | revL u n=>exact False.elim W
 | rngC lo c n=>exact False.elim W
 | enmL u=>exact False.elim W
 | strW x =>
  cases(show J=_ from W);simp only [itm,Option.some.injEq,Option.map_eq_none_iff]at h;show(x.toArray).size<=i;rw [List.size_toArray];exact List.getElem?_eq_none_iff.mp h
theorem Yc{t:Tg}{ρ':Rho}{Q:St->Hp->Prop}(R:Rep T A X.K α hs H)(rs:RS A α ρ σ)(r:RU A α u v)(h:tgt t (.one u) ρ hs=some ρ')(k:∀σ2,RS A α ρ' σ2->Q σ2 H):gT X.K t v σ H Q:=by
 cases t with
 | name i=>cases h;exact k _ (rs.set i r)
 | pair i j =>
  cases u with
  | ref n =>
   obtain⟨a,ha,rfl⟩:=r;simp only [tgt]at h;split at h
   case h_2=>cases h
   rename_i x y e;cases h;obtain⟨vs,q,rr⟩:=R.h.ob n a _ ha e;obtain⟨v1,ws,rfl,r1,rr⟩:=Qr rr;obtain⟨v2,ws,rfl,r2,rr⟩:=Qr rr;cases QV rr;exact⟨a,[v1,v2],rfl,SqT.of q,rfl,v1,[v2],rfl,v2,[],rfl,rfl,k _ ((rs.set i r1).set j r2)⟩
  | _=>simp [tgt]at h
theorem Qch{J:It}{w:Wk}{i:Nat}{x:Im}{t:Tg}{ρ':Rho}(tx:Txt T A X.K X.mg)(R:Rep T A X.K α hs H)(W:WJ A X.K α J w)(rs:RS A α ρ σ)(h:itm T w i hs=some (some x))(ht:tgt t x ρ hs=some ρ'):
  J.go i H/\∀v H' (Q:St->Hp->Prop),J.yld i H v H'->(∀σ2,RS A α ρ' σ2->Rep T A X.K α hs H'->Ext α α H H'->Q σ2 H')->gT X.K t v σ H' Q:=by
 have zip:∀{b c:Bool} {a1 a2:Addr} {xs ys:List U} {vs ws:List V},SqB b X.K H a1 vs->SqB c X.K H a2 ws->RUs A α xs vs->RUs A α ys ws->some (two xs ys i)=some (some x) ->
   (Itz b c X.K a1 a2).go i H/\∀v H' (Q:St->Hp->Prop),(Itz b c X.K a1 a2).yld i H v H'->(∀σ2,RS A α ρ' σ2->Rep T A X.K α hs H'->Ext α α H H'->Q σ2 H')->gT X.K t v σ H' Q:=by
  intro b c a1 a2 xs ys vs ws q1 q2 r1 r2 h;unfold two at h;split at h
  case h_2=>cases h
  rename_i x1 y1 e1 e2;cases h;obtain⟨v1,f1,g1⟩:=r1.get e1;obtain⟨v2,f2,g2⟩:=r2.get e2;refine⟨⟨vs,ws,v1,v2,q1,q2,f1,f2⟩,?_⟩;rintro v H' Q ⟨p,w1,w2,hp,rfl,rfl,k1,k2⟩ k;have n1:w1=v1:=Option.some.inj ((k1 vs q1).symm.trans f1);have n2:w2=v2:=Option.some.inj ((k2 ws q2).symm.trans f2);subst n1 n2
  have ne:∀b y,H b=some y->b≠p:=fun b y e z=>by rw [z,hp]at e;cases e
  have R':Rep T A X.K α hs (upd H p (.tup [w1,w2])):=⟨⟨R.h.len,R.h.nd,fun n a o e1 e2=>RO.keep (R.h.ob n a o e1 e2) (fun _ _ e=>e) fun y e=>by rw [Qe (ne _ _ e)];exact e⟩,R.s.keep fun y e _=>by rw [Qe (ne _ _ e)];exact e⟩
  have E':Ext α α H (upd H p (.tup [w1,w2])):=⟨fun _ _ e=>e,fun n a e l=>by have:=getElem?_lt e;omega,fun b o e _=>by rw [Qe (ne _ _ e)];exact e,fun b o kv e=>by rw [Qe (ne _ _ e)];exact e⟩
  cases t with
  | name i=>simp [tgt]at ht
  | pair i j =>
   cases ht;exact⟨p,[w1,w2],rfl,SqT.of Qg,rfl,w1,[w2],rfl,w2,[],rfl,rfl,k _ ((rs.set i g1).set j g2) R' E'⟩
 cases w with
 | seqL u =>
  obtain⟨a,r,rfl⟩:=W;simp only [itm,Option.map_eq_some_iff]at h;obtain⟨xs,e,y,h,rfl⟩:=h;obtain⟨a',vs,ea,rr,q⟩:=Q5 tx R e r;cases ea;obtain⟨v1,f1,g1⟩:=rr.get h;refine⟨⟨vs,v1,q,f1⟩,?_⟩;rintro v H' Q ⟨rfl,k1⟩ k;have n1:v=v1:=Option.some.inj ((k1 vs q).symm.trans f1);subst n1;exact Yc R rs g1 ht fun σ2 r2=>k σ2 r2 R Ext.refl
 | seqT u =>
  obtain⟨a,r,rfl⟩:=W;simp only [itm,Option.map_eq_some_iff]at h;obtain⟨xs,e,y,h,rfl⟩:=h;obtain⟨a',vs,ea,rr,q⟩:=Yb tx R e r;cases ea;obtain⟨v1,f1,g1⟩:=rr.get h;refine⟨⟨vs,v1,q,f1⟩,?_⟩;rintro v H' Q ⟨rfl,k1⟩ k;have n1:v=v1:=Option.some.inj ((k1 vs q).symm.trans f1);subst n1;exact Yc R rs g1 ht fun σ2 r2=>k σ2 r2 R Ext.refl
 | rng lo n =>
  cases(show J=_ from W);simp only [itm,Option.some.injEq]at h;split at h
  case isFalse=>cases h
  rename_i l;cases h;refine⟨l,?_⟩;rintro v H' Q ⟨rfl,rfl⟩ k;exact Yc (u:=.int (lo+i) 0) R rs ⟨_,rfl,Cg.refl _ _⟩ ht fun σ2 r2=>k σ2 r2 R Ext.refl
 | zipB p q x1 y1 =>
  obtain⟨a,b,r1,r2,rfl⟩:=W;simp only [itm]at h;split at h
  case h_2=>cases h
  rename_i xs ys e1 e2;obtain⟨a',vs,ea,rr,q⟩:=YI tx R e1 r1;cases ea;obtain⟨b',ws,eb,rr',q'⟩:=YI tx R e2 r2;cases eb;exact zip q q' rr rr' h
 | revL u n=>exact False.elim W
 | rngC lo c n=>exact False.elim W
 | enmL u=>exact False.elim W
 | strW y =>
  cases(show J=_ from W);simp only [itm,Option.some.injEq,Option.map_eq_some_iff]at h;obtain⟨c,hc,rfl⟩:=h
  refine⟨by show i<y.toArray.size;rw [List.size_toArray];exact(List.getElem?_eq_some_iff.mp hc).1,?_⟩
  rintro v H' Q ⟨rfl,c',hc',rfl⟩ k
  have e:c'=c:=by
   have:y[i]?=some c':=by simpa using hc'
   rw [hc]at this;exact(Option.some.inj this).symm
  subst e;exact Yc (u:=.str [c']) R rs rfl ht fun σ2 r2=>k σ2 r2 R Ext.refl
noncomputable def TIW(T:Tbl)(A:Adr)(K:PySem.W.Frag)(f:Rho->Hs->Option (Wk×Hs)):L2.TI:=fun σ H R=>∃α ρ hs w hs',RS A α ρ σ/\Rep T A K α hs H/\f ρ hs=some (w,hs') /\
 ∀α' J H',Ext α α' H H'->Rep T A K α' hs' H'->WJ A K α' J w->R J H'
theorem Qe2{tg it:Expr}{t t':L2.TI}(h:PI X tg it t)(i:∀σ H R,t' σ H R->t σ H R):PI X tg it t':=fun pins s σ H R I q=>h pins s σ H R I (i σ H R q)
theorem Qjk{tg it:Expr}{t t':L2.TI}(h:PI X tg it t)(h':PI X tg it t'):PI X tg it (fun σ H R=>t σ H R\/t' σ H R):=fun pins s σ H R I q=>q.elim (h pins s σ H R I) (h' pins s σ H R I)
theorem Qif{tg it:Expr}{ir:E}{d:Nat}(tx:Txt T A X.K X.mg)(h:PE X it (Iv.TI T A X.K (ev T cf d ir))):PI X tg it (TIW T A X.K (fun ρ hs=>YH T (ev T cf d) ρ (.seq ir) hs)):=by
 refine Qe2 (Qjk (Qjk (Qga h) (Qid h)) (Qie h)) ?_;rintro σ H R ⟨α,ρ,hs,w,hs',rs,Rp,e,q⟩;simp only [YH]at e;obtain⟨u,h1,e1,e⟩:=Qb e;simp only [Option.map_eq_some_iff]at e;obtain⟨w',e2,e⟩:=e;cases e;unfold wkS at e2;split at e2
 ·rename_i xs el;cases e2;refine .inl (.inl (TI.run rs Rp e1 fun α1 x H1 E1 R1 r1 rs1=>?_));obtain⟨a,vs,rfl,rr,sq⟩:=Q5 tx R1 el r1;exact⟨a,rfl,⟨vs,sq⟩,q α1 _ H1 E1 R1 ⟨a,r1,rfl⟩⟩
 ·split at e2
  ·rename_i xs el;cases e2;refine .inl (.inr (TI.run rs Rp e1 fun α1 x H1 E1 R1 r1 rs1=>?_));obtain⟨a,vs,rfl,rr,sq⟩:=Yb tx R1 el r1;exact⟨a,rfl,⟨vs,sq⟩,q α1 _ H1 E1 R1 ⟨a,r1,rfl⟩⟩
  ·split at e2
   ·cases e2;refine .inr (TI.run rs Rp e1 fun α1 x H1 E1 R1 r1 rs1=>?_);exact⟨_,r1,q α1 _ H1 E1 R1 rfl⟩
   ·cases e2
theorem Yd{i:Int}(h:Qw (i*4)=true):-(2 ^ 62)<=i/\i<2 ^ 62:=by
 obtain⟨h1,h2⟩:=Zm h;constructor<;>omega
theorem Qig{tg a:Expr}{a':E}{p q:Pos}{d:Nat}(hg:Gl X "range") (hm:X.mg "range"=none) (hns:∀x p,a≠.Starred x p) (h:PE X a (Iv.TI T A X.K (ev T cf d a'))):PI X tg (.Call (.Name "range" p) [a] [] q) (TIW T A X.K (fun ρ hs=>YH T (ev T cf d) ρ (.rng a') hs)):=by
 refine Qe2 (QbU hg hm (Zr h Jr (Qk hns)) (Qk hns)) ?_;rintro σ H R ⟨α,ρ,hs,w,hs',rs,Rp,e,q⟩;simp only [YH]at e;obtain⟨u,h1,e1,e⟩:=Qb e;split at e
 case h_2=>cases e
 split at e
 case isFalse=>cases e
 rename_i i c;cases e;refine TI.run rs Rp e1 fun α1 x H1 E1 R1 r1 rs1=>?_;obtain⟨j,rfl,cg⟩:=r1;cases cg.exact;obtain⟨b1,b2⟩:=Yd c;exact⟨_,rfl,b1,b2,q α1 _ H1 E1 R1 rfl⟩
theorem Qf9{tg a b:Expr}{a' b':E}{p q:Pos}{d:Nat}(hg:Gl X "range") (hm:X.mg "range"=none) (hna:∀x p,a≠.Starred x p) (hnb:∀x p,b≠.Starred x p) (ha:PE X a (Iv.TI T A X.K (ev T cf d a'))) (hb:PE X b (Iv.TI T A X.K (ev T cf d b'))):PI X tg (.Call (.Name "range" p) [a,b] [] q) (TIW T A X.K (fun ρ hs=>YH T (ev T cf d) ρ (.rng2 a' b') hs)):=by
 have s2:starEach [b] X.env=[(false,eval b X.env)]:=Qk hnb
 have s1:starEach [a,b] X.env=[(false,eval a X.env),(false,eval b X.env)]:=by rw [Qk hna,s2]
 refine Qe2 (QbT hg hm (Zr ha (Zr hb Jr (Qk hnb)) (Qk hna)) s1 s2) ?_;rintro σ H R ⟨α,ρ,hs,w,hs',rs,Rp,e,q⟩;simp only [YH]at e;obtain⟨u,h1,e1,e⟩:=Qb e;obtain⟨u2,h2,e2,e⟩:=Qb e;split at e
 case h_2=>cases e
 split at e
 case isFalse=>cases e
 rename_i i j c;cases e;rw [Bool.and_eq_true]at c;refine TI.run rs Rp e1 fun α1 x H1 E1 R1 r1 rs1=>?_;refine TI.run rs1 R1 e2 fun α2 y H2 E2 R2 r2 rs2=>?_;obtain⟨i',rfl,cg⟩:=r1;cases cg.exact;obtain⟨j',rfl,cg⟩:=r2;cases cg.exact;obtain⟨b1,b2⟩:=Yd c.1;obtain⟨b3,b4⟩:=Yd c.2;exact⟨_,_,rfl,⟨b1,b2,b3,b4⟩,q α2 _ H2 (E1.trans E2 R2.h) R2 rfl⟩
theorem Qf8{elts:List Expr}{kt:Nat}{pt:Pos}{a b:Expr}{a' b':E}{p q:Pos}{d:Nat}(tx:Txt T A X.K X.mg)(hg:Gl X "zip") (hm:X.mg "zip"=none) (hna:∀x p,a≠.Starred x p) (hnb:∀x p,b≠.Starred x p) (ha:PE X a (Iv.TI T A X.K (ev T cf d a'))) (hb:PE X b (Iv.TI T A X.K (ev T cf d b'))):
  PI X (.Tuple elts kt pt) (.Call (.Name "zip" p) [a,b] [] q) (TIW T A X.K (fun ρ hs=>YH T (ev T cf d) ρ (.zip a' b') hs)):=by
 have s2:starEach [b] X.env=[(false,eval b X.env)]:=Qk hnb
 have s1:starEach [a,b] X.env=[(false,eval a X.env),(false,eval b X.env)]:=by rw [Qk hna,s2]
 have pa:=Zr ha (Zr hb Jr (Qk hnb)) (Qk hna);refine Qe2 (Qjk (Qjk (QaL (b:=true) (b':=true) hg hm pa s1 s2) (QaL (b:=true) (b':=false) hg hm pa s1 s2)) (Qjk (QaL (b:=false) (b':=true) hg hm pa s1 s2) (QaL (b:=false) (b':=false) hg hm pa s1 s2))) ?_;rintro σ H R ⟨α,ρ,hs,w,hs',rs,Rp,e,q⟩;simp only [YH]at e;obtain⟨u1,h1,e1,e⟩:=Qb e;obtain⟨u2,h2,e2,e⟩:=Qb e;simp only [Option.map_eq_some_iff]at e;obtain⟨w',e3,e⟩:=e;cases e;unfold wkZ at e3;simp only at e3;generalize (Zg T u1 hs').isSome=p at e3;generalize (Zg T u2 hs').isSome=p' at e3;split at e3
 case isFalse=>cases e3
 rename_i c;simp only [Bool.and_eq_true]at c;obtain⟨xs,l1⟩:=Option.isSome_iff_exists.mp c.1;obtain⟨ys,l2⟩:=Option.isSome_iff_exists.mp c.2;cases e3
 have key:Ql0 p p' X.K (QfJ (Iv.TI T A X.K (ev T cf d a')) (QfJ (Iv.TI T A X.K (ev T cf d b')) Qjo)) σ H R:=by
  refine TI.run rs Rp e1 fun α1 x H1 E1 R1 r1 rs1=>TI.run rs1 R1 e2 fun α2 y H2 E2 R2 r2 rs2=>?_;obtain⟨a,vs,rfl,rr,sq⟩:=YI tx R2 l1 (r1.mono E2.pre);obtain⟨b,ws,rfl,rr',sq'⟩:=YI tx R2 l2 r2;exact⟨a,b,rfl,⟨vs,sq⟩,⟨ws,sq'⟩,q α2 _ H2 (E1.trans E2 R2.h) R2 ⟨a,b,r1.mono E2.pre,r2,rfl⟩⟩
 cases p<;>cases p'
 ·exact .inr (.inr key)
 ·exact .inr (.inl key)
 ·exact .inl (.inr key)
 ·exact .inl (.inl key)
theorem Rep.aside{D:Addr}{ho:HO}(R:Rep T A X.K α hs H)(hn:D∉α)(hs':∀o u,H D≠some (.frz o u)):Rep T A X.K α hs (upd H D ho):=
 ⟨⟨R.h.len,R.h.nd,fun n a o e1 e2=>RO.keep (R.h.ob n a o e1 e2) (fun _ _ e=>e) fun y e=>by
   have ne:a≠D:=fun z=>hn (z▸List.mem_of_getElem? e1)
   rw [Qe ne];exact e⟩,
  R.s.keep fun y e z=>by
   obtain⟨ob,u,rfl⟩:=z;have ne:A.s≠D:=fun z=>hs' ob _ (z▸e);rw [Qe ne]
   exact e⟩
theorem Rep.adopt{D:Addr}{us:List U}{ys:List V}(R:Rep T A X.K α hs H)(hn:D∉α)(hD:H D=some (.lst ys))(r:RUs A α us ys):Rep T A X.K (α++[D]) (hs++[.lst us]) H:=by
 refine⟨⟨by simp [R.h.len],YK R.h.nd hn,fun n a o e1 e2=>?_⟩,R.s⟩
 rcases QK e1 with q | ⟨q1,q2⟩
 ·rcases QK e2 with z | ⟨z,_⟩
  ·exact RO.keep (R.h.ob n a o q z) Qu fun x e=>e
  ·have:=getElem?_lt q;rw [R.h.len]at this;omega
 ·subst q2
  rcases QK e2 with z | ⟨_,z⟩
  ·have:=(List.getElem?_eq_some_iff.mp z).1;rw [<-R.h.len]at this;omega
  ·subst z;exact⟨ys,hD,RUs.mono Qu r⟩
theorem RS.pad{p:Rho}{os:St}(rs:RS A α ρ σ)(hl:p.length=os.length)(hp:∀x∈p,x=none):RS A α (ρ++p) (σ++os):=by
 refine⟨by simp [rs.len,hl],fun i u e=>?_⟩
 by_cases l:i < ρ.length
 ·rw [List.getElem?_append_left l]at e;obtain⟨v,h1,h2⟩:=rs.val i u e
  exact⟨v,by rw [List.getElem?_append_left (List.getElem?_eq_some_iff.mp h1).1];exact h1,h2⟩
 ·rw [List.getElem?_append_right (by omega)]at e
  cases hp _ (List.mem_of_getElem? e)
noncomputable def nN(b:Bool):Nat:=if b then 2 else 1
theorem QaQ(b:Bool):(Qir b).length=nN b:=by cases b<;>rfl
theorem Jq(b:Bool):∀x∈Qir b,x=none:=by cases b<;>simp [Qir]
theorem QgV{K:PySem.W.Frag}{b:Bool}{os:St}{Q:St->Hp->Prop}(hl:os.length=nN b)(h:gT K (tgN b σ.length) v (σ++os) H Q):
  gT K (tgN b σ.length) v (σ++os) H fun σ2 H2=>(∃os':St,os'.length=nN b/\σ2=σ++os')/\Q σ2 H2:=by
 cases b with
 | false =>
  have h:Q ((σ++os).set σ.length (some v)) H:=h
  exact⟨⟨os.set 0 (some v),by simp [hl],by rw [List.set_append_right _ _ (Nat.le_refl _),Nat.sub_self]⟩,h⟩
 | true =>
  obtain⟨a,xs,rfl,sq,len,v1,r1,rfl,v2,r2,rfl,e,q⟩:=h
  refine⟨a,_,rfl,sq,len,v1,_,rfl,v2,_,rfl,e,⟨(os.set 0 (some v1)).set 1 (some v2),by simp [hl],?_⟩,q⟩
  rw [List.set_append_right _ _ (Nat.le_refl _),Nat.sub_self,List.set_append_right _ _ (Nat.le_succ _)]
  congr 1
  congr 1
  omega
theorem Qfi{α4:List Addr}{D:Addr}{ho:HO}{H4:Hp}(E4:Ext α α4 H H4)(nD:D∉α)(d3:H D=some ho):D∉α4:=fun z=>by
 obtain⟨n,hn⟩:=List.getElem?_of_mem z;by_cases l:n < α.length
 ·have e1:α[n]?=some α[n]:=List.getElem?_eq_getElem l;have e2:=E4.pre _ _ e1;rw [hn]at e2;cases e2;exact nD (List.getElem_mem l)
 ·have:=E4.new n D hn (by omega)
  rw [d3]at this;cases this
theorem QcK{src:Src}{b:Bool}{t:Option E}{el:E}{d:Nat}{σ:St}{H:Hp}{Q:VK}(tx:Txt T A X.K X.mg)(hl:σ.length=X.N.length)(h:Iv.TI T A X.K (ev T cf (d+1) (.comp src b t el)) σ H Q):
  Qdg (TIW T A X.K (fun ρ hs=>YH T (ev T cf d) ρ src hs)) (nN b) (gT X.K (tgN b X.N.length)) (TIT T A X.K (Qfn (evT T cf d) t)) (Iv.TI T A X.K (ev T cf d el)) σ H Q:=by
 rw [<-hl];obtain⟨α,ρ,hs,u,hs',rs,R,e,q⟩:=h;simp only [ev]at e;obtain⟨w,h1,e1,e⟩:=Qb e;obtain⟨us,h2,e2,e⟩:=Qb e;cases e;refine⟨α,ρ,hs,w,h1,rs,R,e1,fun α1 J H1 E1 R1 W1 D hD=>?_⟩;have rs1:=rs.mono E1.pre;refine⟨fun i m ys H2=>∃αc hc acc,RS A αc ρ σ/\Rep T A X.K αc hc H2/\D∉αc/\H2 D=some (.lst ys)/\RUs A αc acc ys/\Ext α1 αc H1 H2/\WJ A X.K αc J w/\QcL T (ev T cf d) (Qfn (evT T cf d) t) w b el ρ m i acc hc=some (us,h2),⟨JX T w h1,α1,h1,[],rs1,?_,R1.h.notIn hD,Qg,.nil,?_,W1,e2⟩,?_⟩
 ·exact R1.aside (R1.h.notIn hD) fun o u z=>by rw [hD]at z;cases z
 ·exact⟨fun _ _ e=>e,fun n a e l=>by have:=getElem?_lt e;omega,fun b o e _=>by rw [Qe (fun z=>by rw [z,hD]at e;cases e)];exact e,fun b o kv e=>by rw [Qe (fun z=>by rw [z,hD]at e;cases e)];exact e⟩
 rintro i m ys H2 ⟨αc,hc,acc,rsc,Rc,nD,hDl,rr,Ec,Wc,ec⟩;refine⟨hDl,?_⟩
 cases m with
 | zero=>cases ec
 | succ m =>
  simp only [QcL]at ec;split at ec
  ·cases ec
  ·rename_i ei;cases ec;refine .inl ⟨QaY tx Rc Wc ei,?_⟩;have Ra:=Rc.adopt nD hDl rr
   have Ea:Ext α1 (αc++[D]) H1 H2:=⟨fun n a e=>Qu n a (Ec.pre n a e),fun n a e l=>by
    rcases QK e with z | ⟨_,z⟩
    ·exact Ec.new n a z l
    ·rw [z];exact hD,Ec.keep,Ec.fz⟩
   exact q _ _ _ (E1.trans Ea Ra.h) Ra ⟨D,by rw [<-Rc.h.len];exact Qz,rfl⟩
  ·rename_i x ei;split at ec
   ·cases ec
   rename_i ρ' et;split at ec
   case isFalse=>cases ec
   rename_i small;obtain⟨c,h3,e3,ec⟩:=Qb ec
   have go:J.go i H2:=(Qch tx Rc Wc (rsc.pad (os:=List.replicate (nN b) none) (by rw [QaQ];simp) (Jq b)) ei et).1
   refine .inr ⟨go,?_,fun v H3 os lo yl=>?_⟩
   ·have:=rr.length;rw [sizeLine_eq];omega
   have rsn:RS A αc (ρ++Qir b) (σ++os):=rsc.pad (by rw [QaQ,lo]) (Jq b)
   obtain⟨_,stp⟩:=Qch tx Rc Wc rsn ei et;rw [rs.len]at stp;refine QgV lo (stp v H3 _ yl fun σ2 rs2 R3 E3=>?_);have d3:H3 D=some (.lst ys):=E3.keep D _ hDl nD;refine TIT.run rs2 R3 e3 fun α4 H4 E4 R4 rs4=>?_;have d4:H4 D=some (.lst ys):=E4.keep D _ d3 nD;have nD4:=Qfi E4 nD d3;have Et4:=(Ec.trans E3 R3.h).trans E4 R4.h
   cases c with
   | false =>
    rw [if_neg Bool.false_ne_true]at ec ⊢;exact⟨m,Nat.lt_succ_self _,α4,h3,acc,rsc.mono E4.pre,R4,nD4,d4,RUs.mono E4.pre rr,Et4,Wc.mono E4.pre,ec⟩
   | true =>
    rw [if_pos rfl]at ec ⊢;obtain⟨u',h5,e5,ec⟩:=Qb ec;refine TI.run rs4 R4 e5 fun α5 y H5 E5 R5 r5 rs5=>?_;have d5:H5 D=some (.lst ys):=E5.keep D _ d4 nD4;have nD5:=Qfi E5 nD4 d4
    refine⟨d5,m,Nat.lt_succ_self _,α5,h5,acc++[u'],(rsc.mono E4.pre).mono E5.pre,R5.aside nD5 (fun o u z=>by rw [d5]at z;cases z),nD5,Qg,?_,?_,(Wc.mono E4.pre).mono E5.pre,ec⟩
    ·exact Paired.snoc (RUs.mono E5.pre (RUs.mono E4.pre rr)) r5
    ·have Et:=Et4.trans E5 R5.h
     exact⟨Et.pre,Et.new,fun b o e hb=>by rw [Qe (fun z=>by rw [z,hD]at e;cases e)];exact Et.keep b o e hb,fun b o kv e=>by rw [Qe (fun z=>by rw [z,hD]at e;cases e)];exact Et.fz b o kv e⟩
end
end Iv
namespace Iv
open PySem PySem.Spec PyProof.Rows L2
section
variable {X:Cx}{T:Tbl}{A:Adr}{C:Ctx}{cf:Cf}{m k:Nat}
theorem QjU{a:Expr}{a':E}{j d:Nat}{p1 p3 p2 pos:Pos}(tx:Txt T A X.K X.mg)(h:PE X a (TI T A X.K (ev T cf d a'))):
  PE X (.Subscript a (.Slice none none (some (.UnaryOp .USub (.Constant (.int 1) j p1) p3)) p2) pos) (TI T A X.K (ev T cf (d+1) (.rev a'))):=by
 refine QE (Qil h) ?_;rintro σ H Q ⟨α,ρ,hs,u,hs',rs,R,e,q⟩;simp only [ev]at e;obtain⟨u1,h1,e1,e⟩:=Qb e;split at e
 case h_2=>cases e
 rename_i xs el;cases e;refine TI.run rs R e1 fun α1 x H1 E1 R1 r1 rs1=>?_;obtain⟨b,vs,rfl,rr,sq⟩:=Q5 tx R1 el r1;refine⟨b,vs,rfl,sq,fun p hp=>?_⟩;obtain⟨R2,E2⟩:=R1.new (p:=p) (o:=.lst xs.reverse) (ho:=.lst vs.reverse) hp ⟨_,Qg,RUs.mono Qu rr.reverse⟩
 exact q _ _ _ (E1.trans E2 R2.h) R2 ⟨p,by rw [<-R1.h.len];exact Qz,rfl⟩
theorem QhP{f:Str}{args:List Expr}{a:Expr}{a':E}{p pos:Pos}{d:Nat}(g:GX T A C X)(hg:ZQ C f=true)(hx:¬C.bl.contains f=false)(hra:Qai C f args=some a)(h:PE X a (TI T A X.K (ev T cf d a')))(hns:∀x p,a≠.Starred x p):
  PE X (.Call (.Name f p) args [] pos) (TI T A X.K (ev T cf (d+1) (.rev a'))):=by
 unfold Qai at hra;split at hra
 case isFalse=>cases hra
 rename_i ef;subst ef;split at hra
 case h_2=>cases hra
 rename_i r pr a0 p2;split at hra
 case isFalse=>cases hra
 rename_i c;cases hra;simp only [Bool.and_eq_true,decide_eq_true_eq]at c;obtain⟨⟨⟨c1,c2⟩,c3⟩,c4⟩:=c
 have e1:r=Str.ofString "reversed":=by simpa using c1
 subst e1
 refine QE (Qge g.calm (QZ g hg) (g.blt _ hx) (QZ g c2) (g.blt _ (by rw [c4];simp)) h (Qk hns)) ?_
 rintro σ H Q ⟨α,ρ,hs,u,hs',rs,R,e,q⟩;simp only [ev]at e;obtain⟨u1,h1,e1,e⟩:=Qb e;split at e
 case h_2=>cases e
 rename_i xs el;cases e;refine TI.run rs R e1 fun α1 x H1 E1 R1 r1 rs1=>?_;obtain⟨b,vs,rfl,rr,sq⟩:=Q5 g.txt R1 el r1;refine⟨b,vs,rfl,sq,fun p hp=>?_⟩;obtain⟨R2,E2⟩:=R1.new (p:=p) (o:=.lst xs.reverse) (ho:=.lst vs.reverse) hp ⟨_,Qg,RUs.mono Qu rr.reverse⟩
 exact q _ _ _ (E1.trans E2 R2.h) R2 ⟨p,by rw [<-R1.h.len];exact Qz,rfl⟩
theorem QfW{α:List Addr}{us xs:List U}{vs:List V}(h:Qj1 us=some xs)(r:RUs A α us vs):∃a b c:Int,rngA vs=some (a,b,c)/\(-(2 ^ 62)<=a/\a<2 ^ 62/\-(2 ^ 62)<=b/\b<2 ^ 62)/\(c=1\/c=-1) /\
  JV a b c<=sizeLine/\JV a b c<=2 ^ 24/\∀α',RUs A α' xs (Qc0 a (JV a b c) c):=by
 have one:∀{i:Int} {v:V},RU A α (.int i 0) v->v=.int i:=fun⟨j,e,c⟩=>by cases c.exact;exact e
 have core:∀{a b c:Int},QhW a b c=some xs->(-(2 ^ 62)<=a/\a<2 ^ 62/\-(2 ^ 62)<=b/\b<2 ^ 62)/\(c=1\/c=-1)/\JV a b c<=sizeLine/\JV a b c<=2 ^ 24/\∀α',RUs A α' xs (Qc0 a (JV a b c) c):=by
  intro a b c h;unfold QhW at h;split at h
  case isFalse=>cases h
  rename_i cc;simp only [Bool.and_eq_true,Bool.or_eq_true,decide_eq_true_eq]at cc;obtain⟨⟨c1,c2⟩,c3⟩:=cc;obtain⟨b1,b2⟩:=Yd c1;obtain⟨b3,b4⟩:=Yd c2;have h:(if JV a b c<=1000000 then some ((List.range (JV a b c)).map fun i:Nat=>U.int (a+(i:Int)*c) 0)else none)=some xs:=h;split at h
  case isFalse=>cases h
  rename_i hn;cases h
  refine⟨⟨b1,b2,b3,b4⟩,c3,by rw [sizeLine_eq];omega,by omega,fun α'=>?_⟩
  unfold Qc0;generalize List.range (JV a b c)=l
  induction l with
  | nil=>exact .nil
  | cons x r ih=>exact .cons ⟨_,rfl,Cg.refl _ _⟩ ih
 unfold Qj1 at h;split at h
 ·obtain⟨v,ws,rfl,r1,rr⟩:=Qr r;cases QV rr;cases one r1;exact⟨_,_,_,rfl,core h⟩
 ·obtain⟨v,ws,rfl,r1,rr⟩:=Qr r;obtain⟨v2,ws,rfl,r2,rr⟩:=Qr rr;cases QV rr;cases one r1;cases one r2;exact⟨_,_,_,rfl,core h⟩
 ·obtain⟨v,ws,rfl,r1,rr⟩:=Qr r;obtain⟨v2,ws,rfl,r2,rr⟩:=Qr rr;obtain⟨v3,ws,rfl,r3,rr⟩:=Qr rr;cases QV rr;cases one r1;cases one r2;cases one r3;exact⟨_,_,_,rfl,core h⟩
 ·cases h
theorem QhG{f:Str}{args ra:List Expr}{es:List E}{p pos:Pos}{d:Nat}(g:GX T A C X)(hg:ZQ C f=true)(hx:¬C.bl.contains f=false)(hra:J1 C f args=some ra)(ha:PA X ra (TIA T A X.K (fun ρ hs=>evs (ev T cf d) ρ es hs)))(hns:Yy ra):
  PE X (.Call (.Name f p) args [] pos) (TI T A X.K (ev T cf (d+1) (.tupR es))):=by
 unfold J1 at hra;split at hra
 case isFalse=>cases hra
 rename_i ef;subst ef;split at hra
 case h_2=>cases hra
 rename_i r pr ra' pc;split at hra
 case isFalse=>cases hra
 rename_i c;simp only [Bool.and_eq_true,decide_eq_true_eq]at c;obtain⟨⟨⟨⟨⟨c1,c2⟩,c3⟩,c4⟩,c5⟩,c6⟩:=c;cases hra;subst c1
 cases ra with
 | nil=>simp at c6
 | cons a0 args =>
  refine QE (Qgc g.calm (QZ g hg) (g.blt _ hx) (QZ g c2) (g.blt _ (by rw [c4];simp)) ha (Qk (hns a0 (List.mem_cons_self ..))) (Q4 fun z hz=>hns z (List.mem_cons_of_mem _ hz))) ?_
  rintro σ H Q ⟨α,ρ,hs,u,hs',rs,R,e,q⟩;simp only [ev]at e;obtain⟨us,h1,e1,e⟩:=Qb e;split at e
  case h_2=>cases e
  rename_i xs er;cases e;refine TIA.run rs R e1 fun α1 vs H1 E1 R1 r1 rs1=>?_;obtain⟨a,b,c,h1,h2,h3,h4,h5,h6⟩:=QfW er r1;refine⟨a,b,c,h1,h2,h3,h4,h5,fun p hp=>?_⟩;obtain⟨R2,E2⟩:=R1.new (p:=p) (o:=.tup xs) (ho:=.tup (Qc0 a (JV a b c) c)) hp ⟨_,Qg,h6 _⟩
  exact q _ _ _ (E1.trans E2 R2.h) R2 ⟨p,by rw [<-R1.h.len];exact Qz,rfl⟩
noncomputable def Yp:U->Option Key
 | .int i 0=>some (.inl i)
 | .str x=>some (.inr ⟨x.toArray⟩)
 | _=>none
noncomputable def JW:U->V
 | .int i _=>.int i
 | .str x=>.str ⟨x.toArray⟩
 | _=>.non
theorem Qfv{e:Expr}{u:U}(h:Qas e=some u):∃key,Yp u=some key/\kV key=JW u/\PE X e (tC (kV key))/\∀α,RU A α u (JW u):=by
 unfold Qas at h;split at h
 ·rename_i i j p;cases h;exact⟨.inl i,rfl,rfl,QaN,fun α=>⟨i,rfl,Cg.refl _ _⟩⟩
 ·rename_i x j p;cases h;exact⟨.inr x,rfl,rfl,QbW,fun α=>rfl⟩
 ·cases h
theorem JA{u w:U}{key:Key}(h1:Yp u=some key)(h2:Yp w=some key):u=w:=by
 cases u with
 | int i m =>
  cases m with
  | succ m=>cases h1
  | zero =>
   cases h1
   cases w with
   | int j n =>
    cases n with
    | succ n=>cases h2
    | zero=>cases h2;rfl
   | str z=>cases h2
   | _=>cases h2
 | str z =>
  cases h1
  cases w with
  | int j n =>
   cases n with
   | succ n=>cases h2
   | zero=>cases h2
  | str z' =>
   have e:=Sum.inr.inj (Option.some.inj h2);have e2:=congrArg (fun s:Str=>s.cps.toList) e
   have e3:z'=z:=by simpa using e2
   rw [e3]
  | _=>cases h2
 | _=>cases h1
noncomputable def Qey(u:U):Key:=(Yp u).getD (.inl 0)
noncomputable def kvF(p:U×U):Key×V:=(Qey p.1,JW p.2)
theorem Qfs{pos:Pos}:∀{ks:List (Option Expr)} {vs:List Expr} {kvs:List (U×U)},QeS ks vs=some kvs->∃trs:List (TE×TE),PPs X pos ks vs trs/\ks.all (·.isSome)=true/\ks.length=vs.length/\kvs.length=ks.length/\(kvs.map (·.1)).Nodup /\
  (∀p∈kvs,(∃key,Yp p.1=some key)/\∀α,RU A α p.2 (JW p.2))/\∀σ H (Q:List (V×V)->Hp->Prop),Q ((kvs.map kvF).map fun p=>(kV p.1,p.2)) H->YG trs σ H Q
 | [],[],kvs,h=>by
  cases h
  exact⟨[],QbQ,rfl,rfl,rfl,.nil,(fun p m=>by cases m),fun σ H Q q=>q⟩
 | some k::ks,v::vs,kvs,h=>by
  simp only [QeS,Option.bind_eq_some_iff]at h;obtain⟨k',hk,v',hv,r,hr,h⟩:=h;split at h
  ·cases h
  rename_i hn;cases h;obtain⟨key,e1,e2,e3,e4⟩:=Qfv (X:=X) (A:=A) hk;obtain⟨key2,f1,f2,f3,f4⟩:=Qfv (X:=X) (A:=A) hv;obtain⟨trs,h1,h2,h3,h4,h5,h6,h7⟩:=Qfs hr
  refine⟨(tC (kV key),tC (kV key2))::trs,QaK e3 f3 h1,by simpa using h2,by simp [h3],by simp [h4],?_,fun p m=>?_,fun σ H Q q=>?_⟩
  ·rw [List.map_cons];refine List.nodup_cons.mpr ⟨fun z=>hn ?_,h5⟩;obtain⟨p,hp,e⟩:=List.mem_map.mp z
   exact List.any_eq_true.mpr ⟨p,hp,by simpa using e⟩
  ·rcases List.mem_cons.mp m with e | m
   ·cases e;exact⟨⟨key,e1⟩,f4⟩
   ·exact h6 p m
  ·show YG trs σ H fun ps H3=>Q ((kV key,kV key2)::ps) H3;refine h7 σ H _ ?_
   have e:(kV (kvF (k',v')).1,(kvF (k',v')).2)=(kV key,kV key2):=by
    simp only [kvF,Qey,e1,f2,Option.getD_some]
   rw [List.map_cons,List.map_cons,e]at q;exact q
 | [],_::_,kvs,h=>by simp [QeS]at h
 | none::_,[],kvs,h=>by simp [QeS]at h
 | none::_,_::_,kvs,h=>by simp [QeS]at h
 | some _::_,[],kvs,h=>by simp [QeS]at h
theorem Qcd{w x:U}{key:Key}(hw:Yp w=some key):∀{kvs:List (U×U)},(∀p∈kvs,∃key,Yp p.1=some key)->ZC kvs w=some x->Zl (kvs.map kvF) key=some (JW x)/\∃p∈kvs,p.2=x
 | [],_,h=>by cases h
 | (a,v)::r,hk,h=>by
  obtain⟨ka,ha⟩:=hk (a,v) List.mem_cons_self;have ha:Yp a=some ka:=ha;simp only [ZC]at h;rw [List.map_cons];by_cases e:a=w
  ·rw [if_pos e]at h;have hx:=Option.some.inj h;subst hx e
   exact⟨QI (by show Qey a=key;simp [Qey,hw]),(a,v),List.mem_cons_self,rfl⟩
  ·rw [if_neg e]at h
   have ne:¬(kvF (a,v)).1=key:=fun z=>by
    have z:Qey a=key:=z;simp only [Qey,ha,Option.getD_some]at z;subst z;exact e (JA ha hw)
   rw [QJ ne];obtain⟨h1,p,hp,h2⟩:=Qcd hw (fun p m=>hk p (List.mem_cons_of_mem _ m)) h;exact⟨h1,p,List.mem_cons_of_mem _ hp,h2⟩
theorem Jx{key:Key}:∀{kv acc:List (Key×V)},(kv.map (·.1)).Nodup->Zl (Zt acc kv) key=match Zl kv key with | some v=>some v | none=>Zl acc key
 | [],acc,_=>rfl
 | (k0,v0)::r,acc,h=>by
  obtain⟨h1,h2⟩:=List.nodup_cons.mp h;have ih:=Jx (key:=key) (kv:=r) (acc:=ZS acc k0 v0) h2;show Zl (Zt (ZS acc k0 v0) r) key=_;rw [ih];by_cases e:k0=key
  ·rw [QI e]
   have:Zl r key=none:=by
    cases q:Zl r key with
    | none=>rfl
    | some v=>exact absurd (e▸QfC q) h1
   rw [this];show Zl (ZS acc k0 v0) key=some v0;rw [Qaz,if_pos e.symm]
  ·rw [QJ e]
   cases q:Zl r key with
   | some v=>rfl
   | none =>
    show Zl (ZS acc k0 v0) key=Zl acc key;rw [Qaz,if_neg (fun z=>e z.symm)]
theorem YL:∀{kvs:List (U×U)},(∀p∈kvs,∃key,Yp p.1=some key)->(kvs.map (·.1)).Nodup->((kvs.map kvF).map (·.1)).Nodup
 | [],_,_=>.nil
 | (a,v)::r,hk,h=>by
  obtain⟨h1,h2⟩:=List.nodup_cons.mp h;rw [List.map_cons,List.map_cons];refine List.nodup_cons.mpr ⟨fun z=>h1 ?_,YL (fun p m=>hk p (List.mem_cons_of_mem _ m)) h2⟩;obtain⟨q,hq,e⟩:=List.mem_map.mp z;obtain⟨p,hp,e2⟩:=List.mem_map.mp hq;subst e2;obtain⟨ka,ha⟩:=hk (a,v) List.mem_cons_self;obtain⟨kp,hpk⟩:=hk p (List.mem_cons_of_mem _ hp);have ha:Yp a=some ka:=ha;have e:Qey p.1=Qey a:=e;simp only [Qey,ha,hpk,Option.getD_some]at e;subst e;have:p.1=a:=JA hpk ha;exact List.mem_map.mpr ⟨p,hp,this⟩
theorem Yo{α:List Addr}{w:U}{y:V}(h:Y5 w=true)(r:RU A α w y):∃key,Yp w=some key/\y=kV key:=by
 cases w with
 | int i m =>
  cases m with
  | zero=>obtain⟨j,rfl,c⟩:=r;cases c.exact;exact⟨.inl i,rfl,rfl⟩
  | succ m=>cases h
 | str z=>cases(show y=_ from r);exact⟨.inr ⟨z.toArray⟩,rfl,rfl⟩
 | _=>cases h
theorem QjY{ks:List (Option Expr)}{vs:List Expr}{kvs:List (U×U)}{b:Expr}{b':E}{p pos:Pos}{d:Nat}(hu:X.A.units+1<cLine)(hd:QeS ks vs=some kvs)(hsz:ks.length<=15/\ks≠[])(hb:PE X b (TI T A X.K (ev T cf d b')))(hs:Zo b=true):
  PE X (.Subscript (.Dict ks vs p) b pos) (TI T A X.K (ev T cf (d+1) (.dis kvs b'))):=by
 obtain⟨trs,h1,h2,h3,h4,h5,h6,h7⟩:=Qfs (X:=X) (A:=A) (pos:=p) hd;refine QE (Qgf hu (QbY h1 h2 h3 hsz.2 hsz.1) hb (ZT hs)) ?_;rintro σ H Q ⟨α,ρ,hs,u,hs',rs,R,e,q⟩;simp only [ev]at e;obtain⟨w,g1,e1,e⟩:=Qb e;split at e
 case isFalse=>cases e
 rename_i ky;simp only [Option.map_eq_some_iff]at e;obtain⟨x,e2,e⟩:=e;injection e with e3 e4;subst e3 e4;intro D hD
 refine h7 σ _ _ ⟨Qg,kvs.map kvF,rfl,by rw [List.length_map,h4];exact hsz.1,?_⟩
 rw [QfD];have nD:=R.h.notIn hD
 have R':=R.aside (X:=X) (ho:=.dK (Zt [] (kvs.map kvF))) nD fun o u z=>by rw [hD]at z;cases z
 refine TI.run rs R' e1 fun α1 y H1 E1 R1 r1 rs1=>?_;have hD1:H1 D=some (.dK (Zt [] (kvs.map kvF))):=E1.keep D _ Qg nD;obtain⟨key,hk,rfl⟩:=Yo ky r1;obtain⟨hv,p,hp,hx⟩:=Qcd hk (fun p m=>(h6 p m).1) e2
 have hm:Zl (Zt [] (kvs.map kvF)) key=some (JW x):=by
  rw [Jx (YL (fun p m=>(h6 p m).1) h5),hv]
 refine⟨D,JW x,rfl,hm▸DGet.k hD1,?_⟩
 refine q α1 _ H1 ⟨E1.pre,fun n a e l=>?_,fun b o e hb=>E1.keep b o ?_ hb,fun b o kv e=>E1.fz b o kv (by rw [Qe (fun w=>by rw [w,hD]at e;cases e)];exact e)⟩ R1 (hx▸(h6 p hp).2 α1)
 ·have z:=E1.new n a e l
  have ne:a≠D:=fun w=>by rw [w,Qg]at z;cases z
  rw [Qe ne]at z;exact z
 ·have ne:b≠D:=fun w=>by rw [w,hD]at e;cases e
  rw [Qe ne];exact e
theorem QhJ{tg it:Expr}{src:Src}{d:Nat}(g:GX T A C X)(S:Snd T A C X cf m)(h:compSrc (m+1) C it=some src)(hz:Qjt src=true->∃elts kt pt,tg=.Tuple elts kt pt):PI X tg it (TIW T A X.K (fun ρ hs=>YH T (ev T cf d) ρ src hs)):=by
 have seq:∀{it:Expr} {src:Src},(Qh m C it).map Src.seq=some src->PI X tg it (TIW T A X.K (fun ρ hs=>YH T (ev T cf d) ρ src hs)):=by
  intro it src h;simp only [Option.map_eq_some_iff]at h;obtain⟨ir,hi,rfl⟩:=h;exact Qif g.txt (S.e d it ir hi)
 simp only [compSrc]at h;split at h
 ·rename_i f p args q;split at h
  case isFalse=>cases h
  rename_i hg;split at h
  ·exact seq h
  ·split at h
   ·cases h
   rename_i hx;split at h
   ·rename_i e;subst e;split at h
    ·rename_i a;simp only [Option.map_eq_some_iff]at h;obtain⟨a',ha,rfl⟩:=h;exact Qig (QZ g hg) (g.blt _ hx) (Qv ha) (S.e d a a' ha)
    ·rename_i a b;simp only [Option.bind_eq_some_iff,Option.map_eq_some_iff]at h;obtain⟨a',ha,b',hb,rfl⟩:=h;exact Qf9 (QZ g hg) (g.blt _ hx) (Qv ha) (Qv hb) (S.e d a a' ha) (S.e d b b' hb)
    ·cases h
   ·split at h
    ·rename_i e;subst e;split at h
     ·rename_i a b;simp only [Option.bind_eq_some_iff,Option.map_eq_some_iff]at h;obtain⟨a',ha,b',hb,rfl⟩:=h;obtain⟨elts,kt,pt,rfl⟩:=hz rfl;exact Qf8 g.txt (QZ g hg) (g.blt _ hx) (Qv ha) (Qv hb) (S.e d a a' ha) (S.e d b b' hb)
     ·cases h
    ·exact seq h
 ·exact seq h
theorem YM{it:Expr}{src:Src}{env:Env}(h:compSrc m C it=some src):∀x,foldedSetIterable it env x=pure x:=by
 intro x
 cases it<;>first | rfl | skip
 cases m with
 | zero=>simp [compSrc]at h
 | succ m =>
  simp only [compSrc,Option.map_eq_some_iff]at h;obtain⟨_,h,_⟩:=h;cases m<;>simp [Qh]at h
theorem ZP{xs:List Str}{scope:Scope}(g:GX T A C X)(h:JK C xs scope=true):CompOk X xs scope/\∀C0 s H fp,GX T A (C.inner xs scope) (X.block xs scope C0 s H fp):=by
 unfold JK at h;simp only [Bool.and_eq_true,beq_iff_eq,List.all_eq_true,Bool.not_eq_true',decide_eq_true_eq]at h;obtain⟨⟨⟨⟨h1,h2⟩,hd⟩,h3⟩,h5⟩:=h
 have nd:(".0":Str)∉X.N:=fun z=>by
  rw [g.N]at z;rw [List.contains_iff_mem.mpr z]at h5;cases h5
 refine⟨⟨h1,fun x hx=>(h2 x hx).1,fun y hy=>?_,fun x hx=>(h2 x hx).2,(List.nodup_append.mp hd).2.1,nd⟩,fun C0 s H fp=>?_⟩
 ·have:=h3 y hy;obtain⟨n,kd⟩:=y
  cases kd with
  | «local» =>
   simp only [Bool.and_eq_true,Bool.or_eq_true,decide_eq_true_eq,beq_iff_eq,List.contains_iff_mem]at this;exact⟨fun _=>this,(fun z=>nomatch z),fun z=>nomatch z⟩
  | cell=>cases this
  | free =>
   simp only [Bool.or_eq_true,beq_iff_eq]at this;rw [<-g.sc]at this;exact⟨(fun z=>nomatch z),(fun z=>nomatch z),fun _=>this⟩
  | _=>exact⟨(fun z=>nomatch z),(fun z=>nomatch z),fun z=>nomatch z⟩
 ·refine⟨g.CT,?_,?_,?_,g.calm,h1,rfl,g.gfn,g.gcl,g.gco,g.gtx,g.blt,g.txt,g.tab⟩
  ·show hideN xs X.N++xs=hideN xs C.N++xs;rw [g.N]
  ·show(hideN xs X.N++xs).Nodup;rw [g.N];exact hd
  ·show(relabel scope X.env).names=relN C.names scope.names;rw [QW g.kind,g.sc]
theorem QaM{tg:Expr}{b:Bool}{xs:List Str}{scope:Scope}{C0:Addr}{s:Shared}{H:Hp}{fp:List Addr}(g:GX T A C X)(k:CompOk X xs scope)(gb:GX T A (C.inner xs scope) (X.block xs scope C0 s H fp))(h:Qjw tg b xs):PG (X.block xs scope C0 s H fp) tg (gT X.K (tgN b X.N.length)):=by
 have nm:∀{x:Str} {p:Pos} {i:Nat},x∈xs->(hideN xs X.N++xs)[i]?=some x->PG (X.block xs scope C0 s H fp) (.Name x p) (Y9 i):=fun {x p i} hx hi=>by
  have loc:(X.block xs scope C0 s H fp).env.scope.names.lookup x=some .local:=by
   show(relabel scope X.env).names.lookup x=some .local;rw [QW g.kind,Zq,k.loc x hx];rfl
  exact Yj gb.nd hi (.inl loc) (.inr loc)
 rcases h with⟨rfl,x,p,rfl,rfl⟩ | ⟨rfl,x,p,y,q,kt,pt,rfl,rfl⟩
 ·exact nm (by simp) (by rw [<-ZN (xs:=[x])];simp)
 ·refine QbV gb.calm (Zx (nm (by simp) (by rw [<-ZN (xs:=[x,y])];simp)) (Zx (nm (by simp) ?_) Qab))
  rw [<-ZN (xs:=[x,y]),List.getElem?_append_right (by omega)]
  simp
noncomputable def CompParts(X:Cx)(elt:Expr)(gens:List Comprehension)(scope:Scope)(t:TE):Prop:=∃tg iter tl xs n wi g tt te,gens=[⟨tg,iter,Option.toList tl,0⟩]/\CompOk X xs scope/\PI X tg iter wi/\xs.length=n/\(∀C s H fp,PG (X.block xs scope C s H fp) tg g)/\(∀C s H fp,PTO (X.block xs scope C s H fp) tl tt)/\(∀C s H fp,PE (X.block xs scope C s H fp) elt te) /\
 (∀v,foldedSetIterable iter X.env v=pure v)/\∀σ H Q,σ.length=X.N.length->t σ H Q->Qdg wi n g tt te σ H Q
theorem CompParts.pe{elt:Expr}{gens:List Comprehension}{scope:Scope}{pos:Pos}{t:TE}(g:GX T A C X)(h:CompParts X elt gens scope t):PE X (.ListComp elt gens scope pos) t:=by
 obtain⟨tg,iter,tl,xs,n,wi,gg,tt,te,rfl,ok,hi,hn,hg,ht,he,hf,imp⟩:=h;intro pins s σ H Q I q;exact QbZ g.calm ok hi hn hg ht he hf pins s σ H Q I (imp σ H Q I.len q)
end
end Iv
namespace Iv
open PySem PySem.Spec PyProof.Rows L2
section
variable {X:Cx}{T:Tbl}{A:Adr}{C:Ctx}{cf:Cf}{m k:Nat}
theorem QbH{b:Expr}(h:QfN b=none):Zo b=true:=by
 cases b with
 | Slice lo hi st p =>
  cases st with
  | none=>cases h
  | some e =>
   simp only [QfN]at h;split at h<;>cases h
 | _=>rfl
theorem Qd0{b:Expr}{lo hi:Option Expr}(h:QfN b=some (.cut lo hi)):∃p,b=.Slice lo hi none p:=by
 cases b with
 | Slice lo' hi' st p =>
  cases st with
  | none=>cases h;exact⟨p,rfl⟩
  | some e =>
   simp only [QfN]at h;split at h<;>cases h
 | _=>cases h
theorem QgH{e:Expr}(h:Qks e=true):∃j p q,e=.UnaryOp .USub (.Constant (.int 1) j p) q:=by
 unfold Qks at h;split at h
 ·exact⟨_,_,_,rfl⟩
 ·cases h
theorem QdZ{b:Expr}(h:QfN b=some .rev):∃j p1 p3 p,b=.Slice none none (some (.UnaryOp .USub (.Constant (.int 1) j p1) p3)) p:=by
 cases b with
 | Slice lo hi st p =>
  cases st with
  | none=>cases h
  | some e =>
   simp only [QfN]at h;split at h
   ·rename_i c;simp only [Bool.and_eq_true,Option.isNone_iff_eq_none]at c;obtain⟨⟨c1,c2⟩,c3⟩:=c;obtain⟨j,p1,p3,rfl⟩:=QgH c1;subst c2 c3;exact⟨j,p1,p3,p,rfl⟩
   ·cases h
 | _=>cases h
theorem QeF{a:Expr}{ks:List (Option Expr)}{vs:List Expr}(h:Qi0 a=.tab ks vs):∃p,a=.Dict ks vs p:=by
 unfold Qi0 at h;split at h
 ·cases h;exact⟨_,rfl⟩
 ·cases h
 ·cases h
theorem QgS{a:Expr}{x:Str}(h:Qi0 a=.nm x):∃p,a=.Name x p:=by
 unfold Qi0 at h;split at h
 ·cases h
 ·cases h;exact⟨_,rfl⟩
 ·cases h
theorem JY{a b:Expr}{p:Pos}{d:Nat}{ir:E}(g:GX T A C X)(hu:X.A.units+1<cLine)(S:Snd T A C X cf m)(h:Qh (m+1) C (.Subscript a b p)=some ir):PE X (.Subscript a b p) (TI T A X.K (ev T cf d ir)):=by
 simp only [Qh]at h;split at h
 ·rename_i lo hi hb;obtain⟨p2,rfl⟩:=Qd0 hb;exact QfR S h
 ·rename_i hb;obtain⟨j,p1,p3,p2,rfl⟩:=QdZ hb;refine Qt fun d=>?_;simp only [Option.bind_eq_some_iff]at h;obtain⟨a',ha,h⟩:=h;cases h;exact QjU g.txt (S.e d a a' ha)
 ·cases h
 ·rename_i hb;have hs:=QbH hb;refine Qt fun d=>?_;simp only [Option.bind_eq_some_iff]at h;obtain⟨b',hb',h⟩:=h
  have gen:((Qh m C a).bind fun a'=>some (E.ix a' b'))=some ir->PE X (.Subscript a b p) (TI T A X.K (ev T cf (d+1) ir)):=fun h=>by
   simp only [Option.bind_eq_some_iff]at h;obtain⟨a',ha,h⟩:=h;cases h;exact QgF hu g.txt (S.e d a a' ha) (S.e d b b' hb') hs
  split at h
  ·rename_i ks vs hh;obtain⟨pd,rfl⟩:=QeF hh;split at h
   case isFalse=>cases h
   rename_i c;simp only [Bool.and_eq_true,decide_eq_true_eq,Bool.not_eq_true',List.isEmpty_eq_false_iff]at c;simp only [Option.bind_eq_some_iff]at h;obtain⟨kvs,hd,h⟩:=h;cases h;exact QjY hu hd c (S.e d b b' hb') hs
  ·rename_i x hh;split at h
   ·rename_i k ht;obtain⟨px,rfl⟩:=QgS hh;cases h;unfold Qhv at ht;split at ht
    case isFalse=>cases ht
    rename_i c;simp only [Bool.and_eq_true,decide_eq_true_eq]at c;split at ht
    case h_2=>cases ht
    rename_i k' hx;split at ht
    ·cases ht;exact QjT g (S.e d b b' hb') hs c.1 c.2 hx
    ·cases ht
   ·exact gen h
  ·exact gen h
theorem Qa7{f:Expr}{args:List Expr}{kws:List Keyword}{p:Pos}{d:Nat}{ir:E}(g:GX T A C X)(F:Fc X T A cf k)(hr:Room (k+1) X.A)(S:Snd T A C X cf m)(h:Qh (m+1) C (.Call f args kws p)=some ir):PE X (.Call f args kws p) (TI T A X.K (ev T cf d ir)):=by
 refine Qt fun d=>?_
 cases kws with
 | cons kw kws=>cases f<;>exact nomatch (show(none:Option E)=some _ from h)
 | nil =>
  cases f with
  | Name x px =>
   simp only [Qh]at h;split at h
   ·cases h
   rename_i hn;have n1:x≠"__debug__":=fun z=>hn (.inl z);have n2:x≠"__name__":=fun z=>hn (.inr (.inl z))
   have hg:ZQ C x=true:=by
    cases q:ZQ C x with
    | true=>rfl
    | false=>exact absurd (.inr (.inr q)) hn
   split at h
   ·rename_i i hx;simp only [Option.bind_eq_some_iff]at h;obtain⟨es,ha,h⟩:=h;exact QfU g F (hr.mono (Nat.le_succ _)) S hg n1 hx ha h
   ·rename_i i hx;simp only [Option.bind_eq_some_iff]at h;obtain⟨es,ha,h⟩:=h;cases h;exact QhO g F hr S hg n1 hx ha
   ·cases h
   ·cases h
   ·split at h
    ·cases h
    rename_i hx;split at h
    ·rename_i e;subst e;split at h
     ·rename_i a t pt;split at h
      ·rename_i c;simp only [Option.bind_eq_some_iff]at h;obtain⟨a',ha,ty,ht,h⟩:=h;cases h;exact QjW g S hg hx c.1 c.2.1 c.2.2 ht ha
      ·cases h
     ·cases h
    ·split at h
     ·rename_i ra hra;simp only [Option.bind_eq_some_iff]at h;obtain⟨es,ha,h⟩:=h;cases h;exact QhG g hg hx hra (S.a d ra es ha) (Qn ha)
     ·split at h
      ·rename_i a hra;simp only [Option.bind_eq_some_iff]at h;obtain⟨a',ha,h⟩:=h;cases h;exact QhP g hg hx hra (S.e d a a' ha) (Qv ha)
      ·simp only [Option.bind_eq_some_iff]at h;obtain⟨b,hb,es,ha,h⟩:=h;cases h;exact Qm6 g S hg n1 n2 hb ha
  | Attribute o x pa =>
   simp only [Qh]at h;split at h
   case isFalse=>cases h
   rename_i c;simp only [Bool.and_eq_true,decide_eq_true_eq]at c;split at h
   ·rename_i i hx;simp only [Option.bind_eq_some_iff]at h;obtain⟨o',ho,es,ha,h⟩:=h;cases h;exact QhN g F (hr.mono (Nat.le_succ _)) S c.1.1 c.1.2 c.2 hx ho ha
   ·simp only [Option.bind_eq_some_iff]at h;obtain⟨b,hb,o',ho,es,ha,h⟩:=h;cases h;exact Qm5 (QgI hr) g.txt S hb c.1.1 c.1.2 c.2 ho ha
  | _=>exact nomatch (show(none:Option E)=some _ from h)
theorem QeW{e:Expr}{u:U}(h:Qas e=some u):∃v k,RK u k/\v=kV k/\PE X e (tC v):=by
 unfold Qas at h;split at h
 ·cases h;exact⟨_,Sum.inl _,⟨rfl,rfl⟩,rfl,QaN⟩
 ·cases h;exact⟨_,Sum.inr _,rfl,rfl,QbW⟩
 ·cases h
theorem QbJ{d:Nat}{pos:Pos}(S:Snd T A C X cf m):∀{ks:List (Option Expr)} {vs:List Expr} {kk:List U} {es:List E},Jb ks=some kk->Qgy (Qh m C) vs=some es->kk.length=vs.length->∃trs keys,RKs kk keys/\PPs X pos ks vs trs /\
  ∀{α:List Addr} {ρ:Rho} {σ:St} {hs h1:Hs} {H:Hp} {us:List U} {Q:List (V×V)->Hp->Prop},RS A α ρ σ->Rep T A X.K α hs H->evs (ev T cf d) ρ es hs=some (us,h1)->(∀α1 zs H1,Ext α α1 H H1->Rep T A X.K α1 h1 H1->RUs A α1 us zs->Q ((keys.map kV).zip zs) H1)->YG trs σ H Q
 | [],[],kk,es,h1,h2,hl=>by
  cases h1;cases h2;refine⟨[],[],.nil,QbQ,fun rs R e q=>?_⟩;simp only [evs]at e;cases e;exact q _ [] _ Ext.refl R .nil
 | [],_::_,kk,es,h1,h2,hl=>by cases h1;cases hl
 | none::_,_,kk,es,h1,h2,hl=>by cases h1
 | some k::ks,[],kk,es,h1,h2,hl=>by
  simp only [Jb,Option.bind_eq_some_iff]at h1;obtain⟨k',_,r,_,h1⟩:=h1;cases h1;cases hl
 | some k::ks,v::vs,kk,es,h1,h2,hl=>by
  simp only [Jb,Option.bind_eq_some_iff]at h1;obtain⟨k',hk,r,hr,h1⟩:=h1;cases h1;simp only [Qgy,Option.bind_eq_some_iff]at h2;obtain⟨e',he,es',hes,h2⟩:=h2;cases h2
  obtain⟨trs,keys,rk,pp,rd⟩:=QbJ (d:=d) (pos:=pos) S hr hes (by simpa using hl)
  obtain⟨kv,key,rk0,rfl,pk⟩:=QeW (X:=X) hk;refine⟨(tC (kV key),TI T A X.K (ev T cf d e'))::trs,key::keys,.cons rk0 rk,QaK pk (S.e d v e' he) pp,fun {α ρ σ hs h1 H us Q} rs R e q=>?_⟩;simp only [evs]at e;obtain⟨u,h2,e1,e⟩:=Qb e;obtain⟨us',h3,e2,e⟩:=Qb e;cases e;exact TI.run rs R e1 fun α1 y H1 E1 R1 r1 rs1=>rd rs1 R1 e2 fun α2 zs H2 E2 R2 r2=>q α2 (y::zs) H2 (E1.trans E2 R2.h) R2 (.cons (r1.mono E2.pre) r2)
theorem Qe3:∀{keys:List Key} {zs:List V},keys.length=zs.length->(keys.map kV).zip zs=(keys.zip zs).map fun kv=>(kV kv.1,kv.2)
 | [],[],_=>rfl
 | k::ks,z::zs,h=>by simp only [List.map_cons,List.zip_cons_cons,Qe3 (keys:=ks) (zs:=zs) (by simpa using h)]
 | [],_::_,h=>by cases h
 | _::_,[],h=>by cases h
theorem RKs.zip{α:List Addr}:∀{kk us:List U} {keys:List Key} {zs:List V},RKs kk keys->RUs A α us zs->RD A α (kk.zip us) (keys.zip zs)
 | _,_,_,_,.nil,_=>.nil
 | _,_,_,_,.cons _ _,.nil=>.nil
 | _,_,_,_,.cons a t,.cons b r=>.cons ⟨a,b⟩ (RKs.zip t r)
theorem QaV{α β:Type}{f:α->Option β}:∀{xs:List α} {ys:List β},Qgy f xs=some ys->ys.length=xs.length
 | [],ys,h=>by cases h;rfl
 | x::r,ys,h=>by
  simp only [Qgy,Option.bind_eq_some_iff]at h;obtain⟨b,_,bs,h2,h⟩:=h;cases h;rw [List.length_cons,List.length_cons,QaV h2]
theorem JJ:∀{ks:List (Option Expr)} {kk:List U},Jb ks=some kk->ks.all (·.isSome)=true/\kk.length=ks.length
 | [],kk,h=>by cases h;exact⟨rfl,rfl⟩
 | none::_,kk,h=>by cases h
 | some k::ks,kk,h=>by
  simp only [Jb,Option.bind_eq_some_iff]at h;obtain⟨k',_,r,hr,h⟩:=h;cases h;have ih:=JJ hr
  exact⟨by simpa using ih.1,by simp [ih.2]⟩
theorem QjX{ks:List (Option Expr)}{vs:List Expr}{p:Pos}{d:Nat}{ir:E}(S:Snd T A C X cf m)(h:((Jb ks).bind fun kk=>if kk.length=vs.length/\kk.length<=15/\kk≠[]then(Qgy (Qh m C) vs).bind fun es=>some (E.dsp kk es)else none)=some ir):PE X (.Dict ks vs p) (TI T A X.K (ev T cf d ir)):=by
 simp only [Option.bind_eq_some_iff]at h;obtain⟨kk,hk,h⟩:=h;split at h
 case isFalse=>cases h
 rename_i c;simp only [Option.bind_eq_some_iff]at h;obtain⟨es,hes,h⟩:=h;cases h;obtain⟨c1,c2,c3⟩:=c;obtain⟨al,kl⟩:=JJ hk;refine Qt fun d=>?_;obtain⟨trs,keys,rk,pp,rd⟩:=QbJ (d:=d) (pos:=p) S hk hes c1
 refine QE (QbY pp al (by omega) (fun z=>by subst z;exact c3 (List.length_eq_zero_iff.mp (by simpa using kl))) (by omega)) ?_
 rintro σ H Q ⟨α,ρ,hs,u,hs',rs,R,e,q⟩;simp only [ev]at e;obtain⟨us,h1,e1,e⟩:=Qb e;split at e
 case h_2=>cases e
 rename_i e2;cases e;intro b hb;obtain⟨R',E'⟩:=R.new (o:=.dic []) (ho:=.dK []) hb ⟨[],Qg,.nil⟩;have l0:=R.h.len;refine rd (rs.mono E'.pre) R' e1 fun α1 zs H1 E1 R1 r1=>?_
 have ub:α1[hs.length]?=some b:=E1.pre _ _ (by rw [<-l0];exact Qz)
 obtain⟨kv,ekv,rkv⟩:=R1.h.ob hs.length b _ ub e2;cases rkv
 have zl:keys.length=zs.length:=by rw [<-Paired.length rk,<-r1.length,ZW e1,QaV hes,c1]
 refine⟨ekv,keys.zip zs,Qe3 zl,?_,?_⟩
 ·rw [List.length_zip,<-Paired.length rk];omega
 obtain⟨R2,E2⟩:=R1.put (o:=.dic (Qb9 [] (kk.zip us))) (ho:=.dK (Zt [] (keys.zip zs))) ub ⟨_,Qg,RG.merge JD (RKs.zip rk r1) .nil⟩;exact q α1 (.ref b) _ ((E'.trans E1 R1.h).trans E2 R2.h) R2 ⟨b,ub,rfl⟩
theorem QbK(g:GX T A C X)(F:Fc X T A cf k)(hr:Room (k+1) X.A)(S:Snd T A C X cf m)(cp:∀d elt gens scope p ir,Qh (m+1) C (.ListComp elt gens scope p)=some ir->CompParts X elt gens scope (TI T A X.K (ev T cf d ir)))(d:Nat)(e:Expr)(ir:E)(h:Qh (m+1) C e=some ir):PE X e (TI T A X.K (ev T cf d ir)):=by
 cases e with
 | Constant c j p=>exact QfT h
 | Name x p=>exact QhM g h
 | BinOp a o b p=>exact QjZ S h
 | UnaryOp o a p =>
  cases o with
  | USub=>exact QjV S h
  | Not=>exact(QhL g.txt S h).1
  | _=>exact nomatch (show(none:Option E)=some _ from h)
 | BoolOp o vs p =>
  cases vs with
  | nil=>cases o<;>simp [Qh]at h
  | cons a r =>
   cases o with
   | And=>exact(S.an d a r p ir h).2
   | Or=>exact(S.orr d a r p ir h).2
 | Compare a os bs p =>
  match os,bs,h with
  | [o],[b],h=>exact(QhR g.txt g.tab hr.units S h).1
  | [_,_],[_,_],h=>exact nomatch (show(none:Option E)=some _ from h)
  | [],_,h=>exact nomatch (show(none:Option E)=some _ from h)
  | [_],[],h=>exact nomatch (show(none:Option E)=some _ from h)
  | [_],_::_::_,h=>exact nomatch (show(none:Option E)=some _ from h)
  | [_,_],[],h=>exact nomatch (show(none:Option E)=some _ from h)
  | [_,_],[_],h=>exact nomatch (show(none:Option E)=some _ from h)
  | [_,_],_::_::_::_,h=>exact nomatch (show(none:Option E)=some _ from h)
  | _::_::_::_,_,h=>exact nomatch (show(none:Option E)=some _ from h)
 | IfExp t a b p=>exact QfS S h
 | Tuple es j p=>exact QfP S h
 | List es p=>exact QhQ S h
 | Subscript a b p=>exact JY g (QgI hr) S h
 | ListComp elt gens scope p=>exact(cp d elt gens scope p ir h).pe g
 | Dict ks vs p =>
  cases ks with
  | cons k0 ks=>exact QjX S (by simpa only [Qh]using h)
  | nil =>
   cases vs with
   | cons v0 vs=>simp [Qh,Jb]at h
   | nil =>
    simp only [Qh]at h;cases h;refine Qt fun d=>QE Qei ?_;rintro σ H Q ⟨α,ρ,hs,u,hs',rs,R,e,q⟩;simp only [ev]at e;cases e;intro p hp;obtain⟨R',E'⟩:=R.new (o:=.dic []) hp ⟨[],Qg,.nil⟩
    exact q _ _ _ E' R' ⟨p,by rw [<-R.h.len];exact Qz,rfl⟩
 | Attribute a f p=>exact QhS g S h
 | Call f args kws p=>exact Qa7 g F hr S h
 | _=>exact nomatch (show(none:Option E)=some _ from h)
theorem QX{e:Expr}{ir:E}{d:Nat}(g:GX T A C X)(he:∀whole,isTrue e X.env whole=(do let v <-whole;standAt e.pos;holding [v] (truthy v)))(h:∀d,PE X e (TI T A X.K (ev T cf d ir)))(hir:∀d ρ hs,evT T cf (d+1) ir ρ hs=bd (ev T cf d ir ρ hs) fun u h1=>(YX T u h1).map fun b=>(b,h1)):
  PT X e (TIT T A X.K (evT T cf d ir)):=by
 refine QaH fun d=>?_;refine Qhi (Qd9 (h d) he) ?_;rintro σ H Q ⟨α,ρ,hs,u,hs',rs,R,e,q⟩;rw [hir]at e;obtain⟨u1,h1,e1,e⟩:=Qb e;simp only [Option.map_eq_some_iff]at e;obtain⟨b,e2,e⟩:=e;cases e;exact TI.run rs R e1 fun α1 x H1 E1 R1 r1 rs1=>⟨_,Qbz g.txt R1 e2 r1,q α1 H1 E1 R1⟩
theorem QG{ir:E}(h:Qff ir=true):∀d ρ hs,evT T cf (d+1) ir ρ hs=bd (ev T cf d ir ρ hs) fun u h1=>(YX T u h1).map fun b=>(b,h1):=by
 intro d ρ hs
 cases ir<;>first | rfl | cases h
theorem QhH(g:GX T A C X)(F:Fc X T A cf k)(hr:Room (k+1) X.A)(S:Snd T A C X cf m)(cp:∀d elt gens scope p ir,Qh (m+1) C (.ListComp elt gens scope p)=some ir->CompParts X elt gens scope (TI T A X.K (ev T cf d ir)))(d:Nat)(e:Expr)(ir:E)(hne:∀t a b p,e≠.IfExp t a b p)(ok:okT e ir=true)(h:Qh (m+1) C e=some ir):PT X e (TIT T A X.K (evT T cf d ir)):=by
 have all:=fun d=>QbK g F hr S cp d e ir h
 cases e with
 | Constant c j p=>exact QX g (fun _=>rfl) all (QG ok)
 | Name x p=>exact QX g (fun _=>rfl) all (QG ok)
 | BinOp a o b p=>exact QX g (fun _=>rfl) all (QG ok)
 | UnaryOp o a p =>
  cases o with
  | USub=>exact QX g (fun _=>rfl) all (QG ok)
  | Not=>exact(QhL g.txt S h).2
  | _=>exact nomatch (show(none:Option E)=some _ from h)
 | BoolOp o vs p =>
  cases vs with
  | nil=>cases o<;>simp [Qh]at h
  | cons a r =>
   cases o with
   | And=>exact(S.an d a r p ir h).1.pt
   | Or=>exact(S.orr d a r p ir h).1.pt
 | Compare a os bs p =>
  match os,bs,h with
  | [o],[b],h=>exact(QhR g.txt g.tab hr.units S h).2
  | [_,_],[_,_],h=>exact nomatch (show(none:Option E)=some _ from h)
  | [],_,h=>exact nomatch (show(none:Option E)=some _ from h)
  | [_],[],h=>exact nomatch (show(none:Option E)=some _ from h)
  | [_],_::_::_,h=>exact nomatch (show(none:Option E)=some _ from h)
  | [_,_],[],h=>exact nomatch (show(none:Option E)=some _ from h)
  | [_,_],[_],h=>exact nomatch (show(none:Option E)=some _ from h)
  | [_,_],_::_::_::_,h=>exact nomatch (show(none:Option E)=some _ from h)
  | _::_::_::_,_,h=>exact nomatch (show(none:Option E)=some _ from h)
 | IfExp t a b p=>exact absurd rfl (hne t a b p)
 | Tuple es j p=>exact QX g (fun _=>rfl) all (QG ok)
 | List es p=>exact QX g (fun _=>rfl) all (QG ok)
 | Subscript a b p=>exact QX g (fun _=>rfl) all (QG ok)
 | ListComp elt gens scope p=>exact QX g (fun _=>rfl) all (QG ok)
 | Dict ks vs p=>exact QX g (fun _=>rfl) all (QG ok)
 | Attribute a f p=>exact QX g (fun _=>rfl) all (QG ok)
 | Call f args kws p=>exact QX g (fun _=>rfl) all (QG ok)
 | _=>exact nomatch (show(none:Option E)=some _ from h)
theorem Qmn:Snd T A C X cf 0 where
 e:=fun d e ir h=>by simp [Qh]at h
 t:=fun d e ir h=>by simp [compT]at h
 an:=fun d a r p ir h=>by simp [compAnd]at h
 orr:=fun d a r p ir h=>by simp [compOr]at h
 a:=fun d es irs h=>by simp [compA]at h
 o:=fun d e ir h=>by simp [compO]at h
structure Snd2(T:Tbl)(A:Adr)(C:Ctx)(X:Cx)(cf:Cf)(m:Nat):Prop where
 s:Snd T A C X cf m
 w:∀d it src tg,compSrc m C it=some src->(Qjt src=true->∃elts kt pt,tg=.Tuple elts kt pt)->PI X tg it (TIW T A X.K (fun ρ hs=>YH T (ev T cf d) ρ src hs))
 c:∀d elt gens scope p ir,Qh m C (.ListComp elt gens scope p)=some ir->CompParts X elt gens scope (TI T A X.K (ev T cf d ir))
theorem Qh7{tl:Option Expr}{t:Option E}{Y:Cx}{C':Ctx}{d:Nat}(S:Snd T A C' Y cf m)(h:compTO (m+1) C' tl=some t):PTO Y tl (TIT T A Y.K (Qfn (evT T cf d) t)):=by
 cases tl with
 | none =>
  simp only [compTO]at h;cases h;rintro σ H Q ⟨α,ρ,hs,u,hs',rs,R,e,q⟩;simp only [Qfn]at e;cases e;exact q α H Ext.refl R
 | some e =>
  simp only [compTO,Option.bind_eq_some_iff]at h;obtain⟨e',he,h⟩:=h;cases h;exact(S.t d e e' he).1
theorem QbA{tg:Expr}{b:Bool}{xs:List Str}{src:Src}(ht:Qjw tg b xs)(ok:Qen src (tgN b 0)=true):Qjt src=true->∃elts kt pt,tg=.Tuple elts kt pt:=by
 intro hp
 rcases ht with⟨rfl,_⟩ | ⟨rfl,x,p,y,q,k,pt,rfl,_⟩
 ·cases src<;>first | (cases hp;done) | (cases ok;done)
 ·exact⟨_,_,_,rfl⟩
theorem YQ(g:GX T A C X)(S:Snd2 T A C X cf m)(SB:∀xs scope C0 s H fp,JK C xs scope=true->Snd2 T A (C.inner xs scope) (X.block xs scope C0 s H fp) cf m)(ST:∀xs scope C0 s H fp tl t d,JK C xs scope=true->compTO m (C.inner xs scope) tl=some t->PTO (X.block xs scope C0 s H fp) tl (TIT T A X.K (Qfn (evT T cf d) t)))(d:Nat)(elt:Expr)(gens:List Comprehension)(scope:Scope)(p:Pos)(ir:E)
  (h:Qh (m+1) C (.ListComp elt gens scope p)=some ir):CompParts X elt gens scope (TI T A X.K (ev T cf d ir)):=by
 simp only [Qh]at h;split at h
 case h_2=>cases h
 rename_i gn hgen;split at h
 case isFalse=>cases h
 rename_i ok;simp only [Option.bind_eq_some_iff]at h;obtain⟨src,hsrc,h⟩:=h;split at h
 case isFalse=>cases h
 rename_i oks;simp only [Option.bind_eq_some_iff]at h;obtain⟨t,ht,el,hel,h⟩:=h;cases h;obtain⟨tg,rfl,htg⟩:=Qbm hgen;obtain⟨ck,gb⟩:=ZP g ok
 have hn:gn.xs.length=nN gn.b:=by
  rcases htg with⟨e,x,p,_,e'⟩ | ⟨e,x,p,y,q,k,pt,_,e'⟩<;>rw [e,e']<;>rfl
 cases d with
 | zero =>
  exact⟨tg,gn.iter,gn.tl,gn.xs,nN gn.b,_,_,TIT T A X.K (Qfn (evT T cf 0) t),TI T A X.K (ev T cf 0 el),rfl,ck,S.w 0 gn.iter src tg hsrc (QbA htg oks),hn,(fun C0 s H fp=>QaM g ck (gb C0 s H fp) htg),(fun C0 s H fp=>ST _ _ C0 s H fp _ _ 0 ok ht),(fun C0 s H fp=>show PE _ elt (TI T A X.K (ev T cf 0 el))from(SB _ scope C0 s H fp ok).s.e 0 elt el hel),YM hsrc,fun σ H Q _ ⟨_,_,_,_,_,_,_,e,_⟩=>nomatch e⟩
 | succ d =>
  exact⟨tg,gn.iter,gn.tl,gn.xs,nN gn.b,_,_,TIT T A X.K (Qfn (evT T cf d) t),TI T A X.K (ev T cf d el),rfl,ck,S.w d gn.iter src tg hsrc (QbA htg oks),hn,(fun C0 s H fp=>QaM g ck (gb C0 s H fp) htg),(fun C0 s H fp=>ST _ _ C0 s H fp _ _ d ok ht),(fun C0 s H fp=>show PE _ elt (TI T A X.K (ev T cf d el))from(SB _ scope C0 s H fp ok).s.e d elt el hel),YM hsrc,fun σ H Q hl hq=>QcK g.txt hl hq⟩
theorem Qfa:∀(m:Nat) {C:Ctx} {X:Cx},GX T A C X->Fc X T A cf k->Room (k+1) X.A->Snd2 T A C X cf m
 | 0,C,X,g,F,hr=>⟨Qmn,fun d it src tg h=>by simp [compSrc]at h,fun d elt gens scope p ir h=>by simp [Qh]at h⟩
 | 1,C,X,g,F,hr=>by
  have S0:=Qfa 0 g F hr;have S:=S0.s
  have cp:=YQ g S0 (fun x scope C0 s H fp ok=>Qfa 0 ((ZP g ok).2 C0 s H fp) ⟨F.ok,F.some,F.df,F.xf⟩ hr) (fun xs scope C0 s H fp tl t d ok h=>by simp [compTO]at h)
  refine⟨⟨QbK g F hr S cp,fun d e ir h=>?_,QhT S,QlH S,Qfc S,QhK S⟩,fun d it src tg h hz=>QhJ g S h hz,cp⟩;cases e<;>simp [compT,Qh]at h
 | m+2,C,X,g,F,hr=>by
  have S1:=Qfa (m+1) g F hr;have S:=S1.s;have S':=Qfa m g F hr;have cp:=YQ g S1 (fun x scope C0 s H fp ok=>Qfa (m+1) ((ZP g ok).2 C0 s H fp) ⟨F.ok,F.some,F.df,F.xf⟩ hr) (fun xs scope C0 s H fp tl t d ok h=>Qh7 (Qfa m ((ZP g ok).2 C0 s H fp) ⟨F.ok,F.some,F.df,F.xf⟩ hr).s h);refine⟨⟨QbK g F hr S cp,fun d e ir h=>?_,QhT S,QlH S,Qfc S,QhK S⟩,fun d it src tg h hz=>QhJ g S h hz,cp⟩
  have hne:∀t a b p,e≠.IfExp t a b p:=by
   rintro t a b p rfl;simp [compT]at h
  have h':((Qh (m+1) C e).bind fun ir=>if okT e ir=true then some ir else none)=some ir:=by
   cases e<;>first | exact h | (simp [compT]at h;done)
  simp only [Option.bind_eq_some_iff]at h';obtain⟨ir',he,h'⟩:=h';split at h'
  ·rename_i ok;cases h';exact⟨QhH g F hr S'.s S1.c d e ir hne ok he,S.e d e ir he⟩
  ·cases h'
end
end Iv
namespace L2
open PySem PySem.Spec PyProof.Rows
section
variable {X:Cx}{pins:List (Addr×Obj)}{σ:St}{H:Hp}{s:Shared}{d:Addr}
theorem Inv.freeze{kv:List (Key×V)}(I:Inv X pins σ H s)(h:H d=some (.dK kv)):∃o es ep,s.heap.get? d=some o/\o.data=.dict es ep/\Inv X pins σ (upd H d (.frz o (.dK kv))) s:=by
 obtain⟨hz,hm,vs,r,o,es,ep,e,c,dt,rr⟩:=QeR I.hok h;refine⟨o,es,ep,e,dt,?_⟩
 have:=I.write (x:=d) (e:=d) (o:=.frz o (.dK kv)) (h':=s.heap) (t':=s.toks) (by rw [h];trivial) (.inl rfl) (fun b u _ q=>q) ⟨o,e⟩ ⟨e,hz,hm,vs,r,o,es,ep,e,c,dt,rr⟩
 exact this
theorem Inv.thaw{o:Obj}{kv:List (Key×V)}(I:Inv X pins σ H s)(h:H d=some (.frz o (.dK kv)))(h0:∀o' u',X.H₀ d≠some (.frz o' u')):Inv X pins σ (upd H d (.dK kv)) s:=by
 have ne:∀{b:Addr},H b=none->b≠d:=fun q z=>by rw [z,h]at q;cases q
 refine⟨I.ok,I.os,I.bare,⟨I.base.keep,I.base.slot,fun b ob q n hx=>?_,I.base.there,fun b xs q=>?_,fun b ob u q=>?_,fun b ps q=>?_⟩,I.loc,I.cell,?_,fun x c e=>?_,fun p hp=>?_,fun b u q=>?_,I.len⟩
 ·have:=I.base.free b ob q n hx;rw [Qe (ne this)];exact this
 ·have:=I.base.tups b xs q
  rw [Qe (fun z=>by rw [z,h]at this;cases this)]
  exact this
 ·have:=I.base.frzs b ob u q
  rw [Qe (fun z=>by subst z;exact h0 _ _ q)]
  exact this
 ·obtain⟨more,e⟩:=I.base.tbls b ps q;refine⟨more,?_⟩
  rw [Qe (fun z=>by rw [z,h]at e;cases e)]
  exact e
 ·rw [Qe (ne I.free)];exact I.free
 ·rw [Qe (ne (I.freeC x c e))];exact I.freeC x c e
 ·obtain⟨a1,a2,a3⟩:=I.pin p hp
  exact⟨a1,by rw [Qe (ne a2)];exact a2,a3⟩
 ·by_cases hb:b=d
  ·subst hb;rw [Qg]at q;cases q;obtain⟨_,ok⟩:=I.hok b _ h;exact ok
  ·rw [Qe hb]at q;refine(I.hok b u q).stay (fun c v _ r=>r) (fun c r=>?_) fun c xs r=>?_
   ·rw [Qe (fun z=>by rw [z,h]at r;cases r)];exact r
   ·rw [Qe (fun z=>by rw [z,h]at r;cases r)];exact r
end
noncomputable def Itk(a:Addr)(o:Obj)(kv:List (Key×V)):It :=
 ⟨fun i H=>H a=some (.frz o (.dK kv))/\i<kv.length,fun i H x H'=>H'=H/\∃p,kv[i]?=some p/\x=kV p.1,fun i H=>H a=some (.frz o (.dK kv))/\kv.length<=i⟩
theorem QgC{P:Program}{w:World}{k:Key}{u:Value}(h:(Qs P w).is k u=true):RelV (kV k) u:=by
 rcases Qx (show Y6 k u=true from h)with⟨i,t,rfl,rfl⟩ | ⟨x,t,rfl,rfl⟩
 ·exact⟨t,rfl⟩
 ·exact⟨t,rfl⟩
theorem Qfk:∀{kv:List (Key×V)} {vs:List (Key×Value)} {i:Nat} {p:Key×V} {q:Key×Value},KV kv vs->kv[i]?=some p->vs[i]?=some q->p.1=q.1
 | _,_,i,p,q,.nil,h1,h2=>by simp at h1
 | _,_,0,p,q,.cons r t,h1,h2=>by
  simp at h1 h2;subst h1 h2;exact r.1
 | _,_,i+1,p,q,.cons r t,h1,h2=>Qfk (i:=i) t (by simpa using h1) (by simpa using h2)
theorem Qby{P:Program}{w:World}{K:PySem.W.Frag}{tg:Expr}(a it:Addr)(o:Obj)(kv:List (Key×V))(es:Array DictEntry)(ep:Nat)(hd:o.data=.dict es ep):
  Turn P w K tg (Itk a o kv) [it] it (fun i h=>h.IsKeyIter it a i kv.length ep) where
 mem:=by simp
 obj:=fun i h st b hb=>by
  have e:b=it:=by simpa using hb
  subst e;obtain⟨o,e,c,d⟩:=st
  exact⟨o,e,fun v z=>by rw [d]at z;cases z⟩
 keep:=fun i h h' st k=>by
  obtain⟨o,e,r⟩:=st
  exact⟨o,k it (by simp) o e,r⟩
 item:=by
  intro X hP hw hK hc i pins s σ H E I hf st hg;subst hP hw hK
  obtain⟨f0,f1,f2,f3,f4,f5⟩:=hf it (by simp)
  obtain⟨hg,hi⟩:=hg;obtain⟨eo,hz,hm,vs,rr,o',es',ep',e',c',dt',r'⟩:=I.hok a _ hg;rw [eo]at e';cases e';rw [hd]at dt';cases dt';have hl:=Paired.length rr
  have hi':i<vs.length:=by omega
  have D:s.heap.DictAt (Qs X.prog X.w) a vs ep:=⟨o,es,eo,c',hd,r'⟩;have st':=st;rw [hl]at st';refine wpAny_pyNext_dict_item st' D (k:=vs[i].1) (v:=vs[i].2) (List.getElem?_eq_getElem hi') fun key h' hk hit sb=>?_;have I1:Inv X pins σ H { s with heap:=h' }:=I.turned (t':=s.toks) (fun b o hb e=>(sb.2 b hb).trans e) f0 f1 f3 f4 f5;obtain⟨oi,e,c,dd⟩:=id hit
  have ek:kv[i].1=vs[i].1:=by
   exact Qfk rr (List.getElem?_eq_getElem hi) (List.getElem?_eq_getElem hi')
  refine⟨key,rfl,Qcr (s:={ s with heap:=h' }) e c dd (by decide) ⟨kV kv[i].1,H,I1,by rw [ek];exact QgC hk,⟨rfl,kv[i],List.getElem?_eq_getElem hi,rfl⟩,?_,fun b hb=>(hf b hb).1⟩⟩
  rw [hl];exact hit
 done:=by
  intro X hP hw hK hc i pins s σ H E I hf st hg;subst hP hw hK
  obtain⟨f0,f1,f2,f3,f4,f5⟩:=hf it (by simp)
  obtain⟨hg,hi⟩:=hg;obtain⟨eo,hz,hm,vs,rr,o',es',ep',e',c',dt',r'⟩:=I.hok a _ hg;rw [eo]at e';cases e';rw [hd]at dt';cases dt';have hl:=Paired.length rr;have D:s.heap.DictAt (Qs X.prog X.w) a vs ep:=⟨o,es,eo,c',hd,r'⟩;have st':=st;rw [hl]at st'
  exact wpAny_pyNext_dict_end (I.ok.hd hc) st' D (List.getElem?_eq_none (by omega)) fun h' eb=>⟨rfl,I.turned (t':=s.toks) (fun b o hb e=>eb b o hb e) f0 f1 f3 f4 f5⟩
 self:=fun _ _ _ _ _ st h=>wpAny_pyIter_keyiter st h
section
variable {X:Cx}
noncomputable def Qkw(te:TE):TI:=fun σ H R=>te σ H fun x H1=>∃a kv,x=.ref a/\H1 a=some (.dK kv)/\∀o,R (Itk a o kv) (upd H1 a (.frz o (.dK kv)))
theorem Qgb{tg e:Expr}{te:TE}(he:PE X e te):PI X tg e (Qkw te):=by
 intro pins s σ H R I h;refine thn (he pins s σ H _ I h) fun u s1 ⟨x,H1,I1,rx,q1⟩=>?_;obtain⟨a,kv,rfl,hk,q⟩:=q1;cases rx;obtain⟨hz,hm,vs,r,dof⟩:=QeR I1.hok hk;obtain⟨o,es,ep,eo,hd,I2⟩:=I1.freeze hk;have hl:=Paired.length r;obtain⟨ep',D⟩:=dof.dictAt
 have ee:ep'=ep:=by
  obtain⟨o',es',e',c',dt',_⟩:=id D;rw [eo]at e';cases e';rw [hd]at dt';cases dt';rfl
 subst ee;refine wpAny_pyIter_dict hm D ?_
 refine⟨s1.heap.objs.size,[s1.heap.objs.size],_,Itk a o kv,_,rfl,I2.kept (t':=s1.toks) fun b o e=>Heap.get?_push_of_some _ e,Qby a _ o kv es ep' hd,⟨_,Heap.get?_push_size _ rfl,rfl,by rw [hl];rfl⟩,fun b hb=>?_,q o⟩
 have e:b=s1.heap.objs.size:=by simpa using hb
 subst e;exact I2.fpOk (Nat.le_refl _) (I2.hok.fresh (Nat.le_refl _))
noncomputable def Qdf(d:Addr)(H:Hp)(P:Hp->Prop)(H':Hp):Prop:=∃o kv,H' d=some (.frz o (.dK kv))/\P (upd H' d (.dK kv))
noncomputable def Qj0(ts:TS):TS:=fun D σ H=>∃d kv,H d=some (.dK kv)/\ts ⟨fun σ'=>Qdf d H (D.nx σ'),fun v=>Qdf d H (D.rt v),fun σ'=>Qdf d H (D.bk σ'),fun σ'=>Qdf d H (D.ct σ')⟩ σ H
theorem Qf3{st:Stmt}{ts:TS}(h:PS X st ts):PS X st (Qj0 ts):=by
 intro pins s σ H D I q;obtain⟨d,kv,hk,q⟩:=q
 have h0:∀o' u',X.H₀ d≠some (.frz o' u'):=fun o' u' z=>by
  have:=I.base.frzs d o' u' z;rw [hk]at this;cases this
 refine thn (h pins s σ H _ I q) fun f s' hf=>?_
 cases f with
 | next=>obtain⟨σ',H',I',o,kv',e,p⟩:=hf;exact⟨σ',_,I'.thaw e h0,p⟩
 | brk=>obtain⟨σ',H',I',o,kv',e,p⟩:=hf;exact⟨σ',_,I'.thaw e h0,p⟩
 | cont=>obtain⟨σ',H',I',o,kv',e,p⟩:=hf;exact⟨σ',_,I'.thaw e h0,p⟩
 | ret u=>obtain⟨v,σ',H',I',rv,o,kv',e,p⟩:=hf;exact⟨v,σ',_,I'.thaw e h0,rv,p⟩
end
end L2
namespace Iv
open PySem PySem.Spec PyProof.Rows L2
section
variable {X:Cx}{T:Tbl}{A:Adr}{C:Ctx}{cf:Cf}{m k:Nat}
theorem Yx{st:Stmt}{t:TS}(h:∀D σ H,¬t D σ H):PS X st t:=fun _ _ σ H D _ q=>(h D σ H q).elim
theorem Z8{st:List Stmt}{t:TS}(h:∀D σ H,¬t D σ H):PSs X st t:=fun _ _ σ H D _ q=>(h D σ H q).elim
theorem QaT{e:Expr}{ir:E}{tg:Option Expr}{l:Nat}{env:Env}(h:Qh m C e=some ir)(hn:∀elt gens scope p,e≠.ListComp elt gens scope p):swapsWith e tg l env=pure false:=by
 cases e<;>first | rfl | exact absurd rfl (hn _ _ _ _) | (cases m<;>simp [Qh]at h;done)
theorem Qgw{e o:Expr}{f:Str}{p:Pos}{ir:E}{l:Nat}{env:Env}(h:Qh m C e=some ir):swapsWith e (some (.Attribute o f p)) l env=pure false:=by
 cases e<;>first | rfl | (cases m<;>simp [Qh]at h;done)
theorem Qjp{tg:Expr}{t:Tg}(g:GX T A C X)(fl:∀x,X.fn x=true\/X.env.scope.names.lookup x=some .local)(h:YS C tg=some t):PG X tg (gT X.K t):=by
 have nm:∀{x:Str} {p:Pos} {i:Nat},Qak C x=true->idx x C.N=some i->PG X (.Name x p) (Y9 i):=fun {x p i} h1 h2=>Yj g.nd (by rw [g.N];exact QP h2) (Jy g h1) (fl x)
 unfold YS at h;split at h
 ·split at h
  ·rename_i hl;simp only [Option.map_eq_some_iff]at h;obtain⟨i,hi,rfl⟩:=h;exact nm hl hi
  ·cases h
 ·split at h
  ·rename_i c;simp only [Bool.and_eq_true]at c;simp only [Option.bind_eq_some_iff,Option.map_eq_some_iff]at h;obtain⟨i,hi,j,hj,rfl⟩:=h;exact QbV g.calm (Zx (nm c.1.1 hi) (Zx (nm c.1.2 hj) Qab))
  ·cases h
 ·cases h
theorem Qbr{o i:Expr}{pos:Pos}{env:Env}(h:Zo i=true):∀v,assign (.Subscript o i pos) env v=(do
   let ov <-holding [v] (eval o env);let iv <-holding [v,ov] (eval i env)
   standAt pos
   holding [v,ov,iv] (setItem ov iv v)
   release [v,ov,iv] []):=by
 intro v
 cases i<;>first | rfl | cases h
theorem Qgv{e o i:Expr}{p:Pos}{ir:E}{l:Nat}{env:Env}(h:Qh m C e=some ir):swapsWithSole [.Subscript o i p] e l env=pure false:=by
 cases e<;>first | rfl | (cases m<;>simp [Qh]at h;done)
theorem Qgu{e:Expr}{es:List Expr}{kt:Nat}{p:Pos}{ir:E}{l:Nat}{env:Env}(h:Qh m C e=some ir):swapsWithSole [.Tuple es kt p] e l env=pure false:=by
 cases e<;>first | rfl | (cases m<;>simp [Qh]at h;done)
theorem Jv{e:Expr}{es:List Expr}{kt:Nat}{p:Pos}{env:Env}(h:Qfj e=true):swappedStores [.Tuple es kt p] e env=pure none:=by
 cases e<;>first | rfl | cases h
theorem QeM{e:Expr}(h:Qkz e=some true):∃x j q,e=.Constant (.str x) j q:=by
 cases e with
 | Constant c j q=>cases c<;>first | exact⟨_,_,_,rfl⟩ | cases h
 | _=>cases h
theorem Z7{ts:List Expr}{a:As}(h:Qhg ts=some a):∃t,ts=[t]/\as1 t=some a:=by
 match ts,h with
 | [t],h=>exact⟨t,rfl,h⟩
theorem Qhe{ts:List Expr}{x:Str}(h:Qhg ts=some (.nm x)):∃p,ts=[.Name x p]:=by
 obtain⟨t,rfl,h'⟩:=Z7 h;clear h;have h:=h';clear h';unfold as1 at h;split at h
 ·cases h;exact⟨_,rfl⟩
 ·cases h
 ·cases h
 ·split at h
  ·unfold Qbw at h;split at h<;>cases h
  ·cases h
 ·cases h
theorem Qhf{ts:List Expr}{o:Expr}{f:Str}(h:Qhg ts=some (.at o f)):∃p,ts=[.Attribute o f p]:=by
 obtain⟨t,rfl,h'⟩:=Z7 h;clear h;have h:=h';clear h';unfold as1 at h;split at h
 ·cases h
 ·cases h;exact⟨_,rfl⟩
 ·cases h
 ·split at h
  ·unfold Qbw at h;split at h<;>cases h
  ·cases h
 ·cases h
theorem Qe0{ts:List Expr}{o i:Expr}(h:Qhg ts=some (.sub o i)):∃p,ts=[.Subscript o i p]:=by
 obtain⟨t,rfl,h'⟩:=Z7 h;clear h;have h:=h';clear h';unfold as1 at h;split at h
 ·cases h
 ·cases h
 ·cases h;exact⟨_,rfl⟩
 ·split at h
  ·unfold Qbw at h;split at h<;>cases h
  ·cases h
 ·cases h
theorem QeZ{ts:List Expr}{x y:Str}{p q:Pos}(h:Qhg ts=some (.two x p y q)):∃kt pt,ts=[.Tuple [.Name x p,.Name y q] kt pt]:=by
 obtain⟨t,rfl,h'⟩:=Z7 h;clear h;have h:=h';clear h';unfold as1 at h;split at h
 ·cases h
 ·cases h
 ·cases h
 ·split at h
  ·unfold Qbw at h;split at h
   ·cases h;exact⟨_,_,rfl⟩
   ·cases h
  ·cases h
 ·cases h
theorem Yq{x:Str}(h:ZM C x=true):C.names.lookup x=some .local:=by
 unfold ZM at h;split at h
 ·rename_i e;exact e
 ·cases h
theorem RUs.set{α:List Addr}{u:U}{v:V}(p:Nat)(r:RU A α u v):∀{us:List U} {vs:List V},RUs A α us vs->RUs A α (us.set p u) (vs.set p v):=fun {us vs} h=>by
 induction h generalizing p with
 | nil=>exact .nil
 | cons a t ih =>
  cases p with
  | zero=>exact .cons r t
  | succ p=>exact .cons a (ih p)
theorem Qhu{tg:Expr}{t:Tg}{src:Src}(ht:YS C tg=some t)(ok:Qen src t=true):Qjt src=true->∃elts kt pt,tg=.Tuple elts kt pt:=by
 intro hp
 cases tg with
 | Tuple elts kt pt=>exact⟨_,_,_,rfl⟩
 | Name x p =>
  simp only [YS]at ht;split at ht
  ·simp only [Option.map_eq_some_iff]at ht;obtain⟨i,_,rfl⟩:=ht
   cases src<;>first | (cases hp;done) | (cases ok;done)
  ·cases ht
 | _=>simp [YS]at ht
structure SndS(T:Tbl)(A:Adr)(C:Ctx)(X:Cx)(cf:Cf)(m:Nat):Prop where
 s:∀d st ir,Q6 m C st=some ir->PS X st (TIS T A X.K (ex T cf d ir))
 ss:∀d sts irs,compSs m C sts=some irs->PSs X sts (TIS T A X.K (exs T cf d irs))
theorem Qkn{K:PySem.W.Frag}{ir:S}:∀D σ H,¬TIS T A K (ex T cf 0 ir) D σ H:=fun _ _ _ ⟨_,_,_,_,_,_,_,_,h,_⟩=>nomatch h
theorem QiI{K:PySem.W.Frag}{irs:List S}:∀D σ H,¬TIS T A K (exs T cf 0 irs) D σ H:=fun _ _ _ ⟨_,_,_,_,_,_,_,_,h,_⟩=>nomatch h
theorem Qeb{st:Stmt}{ir:S}{d:Nat}(h:∀d',PS X st (TIS T A X.K (ex T cf (d'+1) ir))):PS X st (TIS T A X.K (ex T cf d ir)):=by
 cases d with
 | zero=>exact Yx Qkn
 | succ d=>exact h d
theorem TIS.run{K:PySem.W.Frag}{α:List Addr}{ρ ρ':Rho}{σ:St}{hs h1:Hs}{H:Hp}{f:Ex}{fl:Fl}{D:Ends}(rs:RS A α ρ σ)(rp:Rep T A K α hs H)(h:f ρ hs=some (fl,ρ',h1))
  (k:∀α1 σ1 H1,Ext α α1 H H1->Rep T A K α1 h1 H1->RS A α1 ρ' σ1->flE A α1 D σ1 H1 fl):TIS T A K f D σ H:=⟨α,ρ,hs,fl,ρ',h1,rs,rp,h,k⟩
theorem QeK{d:Nat}{body:List S}{w:Wk}{t:Tg}{J:It}{K:PySem.W.Frag}{D:Ends}{α0:List Addr}{H0:Hp}{σ0:St}{ρ0 ρ':Rho}{h0 hs':Hs}{fl:Fl}{n:Nat}(hK:K=X.K)(tx:Txt T A X.K X.mg)(rs0:RS A α0 ρ0 σ0)(R0:Rep T A X.K α0 h0 H0)(W0:WJ A X.K α0 J w)
  (e0:Qal T w t (exs T cf d body) n 0 ρ0 h0=some (fl,ρ',hs'))
  (q:∀α' σ' H',Ext α0 α' H0 H'->Rep T A X.K α' hs' H'->RS A α' ρ' σ'->flE A α' D σ' H' fl):
  ∃W:Nat->Nat->St->Hp->Prop,(∃m,W 0 m σ0 H0)/\∀i m σ H,W i m σ H->(J.stop i H/\D.nx σ H)\/(J.go i H/\∃N:St->Hp->Prop,(∀σ' H',N σ' H'->∃m',m'<m/\W (i+1) m' σ' H') /\
   ∀x H',J.yld i H x H'->gT X.K t x σ H' fun σ2 H2=>TIS T A X.K (exs T cf d body) { D with nx:=N,ct:=N,bk:=D.nx } σ2 H2):=by
 refine⟨fun i m σ H=>∃α ρ hs,RS A α ρ σ/\Rep T A X.K α hs H/\Ext α0 α H0 H/\Qal T w t (exs T cf d body) m i ρ hs=some (fl,ρ',hs'),⟨n,α0,ρ0,h0,rs0,R0,Ext.refl,e0⟩,?_⟩;rintro i m σ H ⟨α,ρ,hs,rs,R,E,e⟩
 cases m with
 | zero=>cases e
 | succ m =>
  have W:=W0.mono E.pre;simp only [Qal]at e;split at e
  ·cases e
  ·rename_i ei;cases e;exact .inl ⟨QaY tx R W ei,q α σ H E R rs⟩
  ·rename_i x ei;split at e
   ·cases e
   ·rename_i ρ1 et;obtain⟨go,yl⟩:=Qch tx R W rs ei et;refine .inr ⟨go,fun σ' H'=>∃α ρ hs,RS A α ρ σ'/\Rep T A X.K α hs H'/\Ext α0 α H0 H'/\Qal T w t (exs T cf d body) m (i+1) ρ hs=some (fl,ρ',hs'),fun σ' H' z=>⟨m,Nat.lt_succ_self _,z⟩,?_⟩;intro v H' hy;refine yl v H' _ hy fun σ2 rs2 R2 E2=>?_;have E02:Ext α0 α H0 H':=E.trans E2 R2.h;split at e
    ·rename_i ρ2 h2 eb;exact TIS.run rs2 R2 eb fun α3 σ3 H3 E3 R3 rs3=>⟨α3,ρ2,h2,rs3,R3,E02.trans E3 R3.h,e⟩
    ·rename_i ρ2 h2 eb;exact TIS.run rs2 R2 eb fun α3 σ3 H3 E3 R3 rs3=>⟨α3,ρ2,h2,rs3,R3,E02.trans E3 R3.h,e⟩
    ·rename_i ρ2 h2 eb;cases e;exact TIS.run rs2 R2 eb fun α3 σ3 H3 E3 R3 rs3=>q α3 σ3 H3 (E02.trans E3 R3.h) R3 rs3
    ·rename_i n1 n2 n3
     cases fl with
     | next=>exact absurd e (n1 _ _)
     | cont=>exact absurd e (n2 _ _)
     | brk=>exact absurd e (n3 _ _)
     | ret u=>exact TIS.run rs2 R2 e fun α3 σ3 H3 E3 R3 rs3=>q α3 σ3 H3 (E02.trans E3 R3.h) R3 rs3
theorem Qj3{α:List Addr}{u:U}{k:Key}(h:RK u k):RU A α u (kV k):=by
 cases u<;>simp only [RK]at h<;>first | exact h.elim | skip
 ·obtain⟨rfl,rfl⟩:=h;exact⟨_,rfl,Cg.refl _ _⟩
 ·subst h;rfl
theorem Qh0{α:List Addr}:∀{kvs:List (U×U)} {kv:List (Key×V)} {i:Nat} {p:U×U} {q:Key×V},RD A α kvs kv->kvs[i]?=some p->kv[i]?=some q->RK p.1 q.1
 | _,_,i,p,q,.nil,h1,h2=>by simp at h1
 | _,_,0,p,q,.cons r t,h1,h2=>by
  simp at h1 h2;subst h1 h2;exact r.1
 | _,_,i+1,p,q,.cons r t,h1,h2=>Qh0 (i:=i) t (by simpa using h1) (by simpa using h2)
theorem Qcs{d:Nat}{body:List S}{i0:Nat}{a:Addr}{ob:Obj}{kv:List (Key×V)}{kvs:List (U×U)}{D:Ends}{α0:List Addr}{H0:Hp}{σ0:St}{ρ0 ρ':Rho}{h0 hs':Hs}{fl:Fl}(rs0:RS A α0 ρ0 σ0)(R0:Rep T A X.K α0 h0 H0)
  (hz:H0 a=some (.frz ob (.dK kv))) (rd:RD A α0 kvs kv)
  (e0:Qfm i0 (exs T cf d body) (kvs.map (·.1)) ρ0 h0=some (fl,ρ',hs'))
  (q:∀α' σ' H',Ext α0 α' H0 H'->Rep T A X.K α' hs' H'->RS A α' ρ' σ'->flE A α' D σ' H' fl):
  ∃W:Nat->Nat->St->Hp->Prop,(∃m,W 0 m σ0 H0)/\∀i m σ H,W i m σ H->((Itk a ob kv).stop i H/\D.nx σ H)\/((Itk a ob kv).go i H/\∃N:St->Hp->Prop,(∀σ' H',N σ' H'->∃m',m'<m/\W (i+1) m' σ' H') /\
   ∀x H',(Itk a ob kv).yld i H x H'->gT X.K (.name i0) x σ H' fun σ2 H2=>TIS T A X.K (exs T cf d body) { D with nx:=N,ct:=N,bk:=D.nx } σ2 H2):=by
 have hl:=Paired.length rd;refine⟨fun i m σ H=>∃α ρ hs,RS A α ρ σ/\Rep T A X.K α hs H/\Ext α0 α H0 H/\m+i=kvs.length/\Qfm i0 (exs T cf d body) ((kvs.drop i).map (·.1)) ρ hs=some (fl,ρ',hs'),⟨kvs.length,α0,ρ0,h0,rs0,R0,Ext.refl,rfl,e0⟩,?_⟩;rintro i m σ H ⟨α,ρ,hs,rs,R,E,hm,e⟩;have hzi:=E.fz a ob kv hz
 cases m with
 | zero =>
  rw [List.drop_of_length_le (by omega)]at e
  simp only [List.map_nil,Qfm]at e;cases e
  exact .inl ⟨⟨hzi,by omega⟩,q α σ H E R rs⟩
 | succ m =>
  have hi:i<kvs.length:=by omega
  rw [List.drop_eq_getElem_cons hi,List.map_cons]at e;simp only [Qfm]at e
  refine .inr ⟨⟨hzi,by omega⟩,fun σ' H'=>∃α ρ hs,RS A α ρ σ'/\Rep T A X.K α hs H'/\Ext α0 α H0 H'/\m+(i+1)=kvs.length/\Qfm i0 (exs T cf d body) ((kvs.drop (i+1)).map (·.1)) ρ hs=some (fl,ρ',hs'),fun σ' H' z=>⟨m,Nat.lt_succ_self _,z⟩,?_⟩
  rintro x H' ⟨rfl,p,hp,rfl⟩;have rk:RK kvs[i].1 p.1:=Qh0 rd (List.getElem?_eq_getElem hi) hp;have rs2:=rs.set i0 (Qj3 (A:=A) (α:=α) rk);show TIS T A X.K (exs T cf d body) _ _ _;split at e
  ·rename_i ρ2 h2 eb
   exact TIS.run rs2 R eb fun α3 σ3 H3 E3 R3 rs3=>⟨α3,ρ2,h2,rs3,R3,E.trans E3 R3.h,by omega,e⟩
  ·rename_i ρ2 h2 eb
   exact TIS.run rs2 R eb fun α3 σ3 H3 E3 R3 rs3=>⟨α3,ρ2,h2,rs3,R3,E.trans E3 R3.h,by omega,e⟩
  ·rename_i ρ2 h2 eb;cases e;exact TIS.run rs2 R eb fun α3 σ3 H3 E3 R3 rs3=>q α3 σ3 H3 (E.trans E3 R3.h) R3 rs3
  ·rename_i n1 n2 n3
   cases fl with
   | next=>exact absurd e (n1 _ _)
   | cont=>exact absurd e (n2 _ _)
   | brk=>exact absurd e (n3 _ _)
   | ret u=>exact TIS.run rs2 R e fun α3 σ3 H3 E3 R3 rs3=>q α3 σ3 H3 (E.trans E3 R3.h) R3 rs3
theorem QeU{u:U}{hs h1:Hs}{n:Nat}{kvs:List (U×U)}(h:Qg2 u hs h1=some (n,kvs)):u=.ref n/\(∃k0,hs[n]?=some (.dic k0))/\h1[n]?=some (.dic kvs):=by
 unfold Qg2 at h;split at h
 case h_2=>cases h
 split at h
 case h_2=>cases h
 rename_i k0 e0;split at h
 case h_2=>cases h
 rename_i k1 e1;cases h;exact⟨rfl,⟨k0,e0⟩,e1⟩
theorem QgX{ρ:Rho}{i:Nat}{u:U}(h:(frg ρ)[i]?=some (some u)):ρ[i]?=some (some u)/\ZH u=true:=by
 unfold frg at h;rw [List.getElem?_map]at h
 cases q:ρ[i]? with
 | none=>rw [q]at h;cases h
 | some o =>
  rw [q]at h
  cases o with
  | none=>cases h
  | some x=>cases x<;>first | (cases h;exact⟨rfl,rfl⟩) | cases h
theorem RU.scal{α α':List Addr}{u:U}{v:V}(h:ZH u=true)(r:RU A α u v):RU A α' u v:=by
 cases u<;>first | exact r | cases h
theorem RS.frg{α α':List Addr}{ρ:Rho}{σ:St}(r:RS A α ρ σ):RS A α' (Iv.frg ρ) σ:=⟨by rw [<-r.len];simp [Iv.frg],fun i u e=>by
 obtain⟨e1,e2⟩:=QgX e;obtain⟨v,h1,h2⟩:=r.val i u e1
 exact⟨v,h1,RU.scal e2 h2⟩⟩
theorem Rep.none{K:PySem.W.Frag}{α:List Addr}{hs:Hs}{H:Hp}(R:Rep T A K α hs H):Rep T A K [] [] H:=⟨⟨rfl,List.nodup_nil,fun n a o e=>by simp at e⟩,R.s⟩
theorem RUs.scal{α α':List Addr}:∀{us:List U} {vs:List V},us.all ZH=true->RUs A α us vs->RUs A α' us vs
 | _,_,_,.nil=>.nil
 | _,_,h,.cons r t=>by
  rw [List.all_cons,Bool.and_eq_true]at h;exact .cons (RU.scal h.1 r) (RUs.scal h.2 t)
theorem Qcu{d i:Nat}{body:List S}{a:Addr}{D:Ends}{α0:List Addr}{H0:Hp}{σ0:St}{ρ0 ρ':Rho}{h0:Hs}{xs:List U}{vs:List V}{fl:Fl}(tx:Txt T A X.K X.mg)(rs0:RS A α0 ρ0 σ0)(R0:Rep T A X.K α0 h0 H0)(sq:SqL X.K H0 a vs)(rv:RUs A α0 xs vs)(sc:xs.all ZH=true)
  (e0:QgZ i (exs T cf d body) xs (frg ρ0)=some (fl,ρ'))
  (q:∀α' σ' H',Ext α0 α' H0 H'->Rep T A X.K α' h0 H'->RS A α' ρ' σ'->flE A α' D σ' H' fl):
  ∃W:Nat->Nat->St->Hp->Prop,(∃m,W 0 m σ0 H0)/\∀n m σ H,W n m σ H->((Itl X.K a).stop n H/\D.nx σ H)\/((Itl X.K a).go n H/\∃N:St->Hp->Prop,(∀σ' H',N σ' H'->∃m',m'<m/\W (n+1) m' σ' H') /\
   ∀x H',(Itl X.K a).yld n H x H'->Y9 i x σ H' fun σ2 H2=>TIS T A X.K (exs T cf d body) { D with nx:=N,ct:=N,bk:=D.nx } σ2 H2):=by
 have rv':RUs A [] xs vs:=RUs.scal sc rv
 -- what stood stays
 have fin:∀{H:Hp} {σ:St},Same H0 H->Rep T A X.K [] [] H->RS A [] ρ' σ->flE A α0 D σ H fl:=by
  intro H σ sm R rs
  refine q α0 σ H ⟨fun _ _ e=>e,fun n b e l=>by have:=getElem?_lt e;omega,fun b o e _=>sm b o e,fun b o kv e=>sm b _ e⟩ ⟨⟨R0.h.len,R0.h.nd,fun n b o e1 e2=>RO.keep (R0.h.ob n b o e1 e2) (fun _ _ e=>e) fun x e=>sm b x e⟩,R.s⟩ (rs.mono fun n b e=>by simp at e)
 refine⟨fun n m σ H=>∃ρ,RS A [] ρ σ/\Rep T A X.K [] [] H/\Same H0 H/\n<=xs.length/\m=xs.length-n/\QgZ i (exs T cf d body) (xs.drop n) ρ=some (fl,ρ'),⟨_,frg ρ0,rs0.frg,R0.none,fun _ _ e=>e,Nat.zero_le _,rfl,e0⟩,?_⟩;rintro n m σ H ⟨ρ,rs,R,sm,ln,em,e⟩;have sqH:SqL X.K H a vs:=sm.seq sq;by_cases l:n<xs.length
 ·have ed:xs.drop n=xs[n]::xs.drop (n+1):=List.drop_eq_getElem_cons l;rw [ed]at e;obtain⟨v,hv,rx⟩:=rv'.get (List.getElem?_eq_getElem l)
  refine .inr ⟨⟨vs,v,sqH,hv⟩,fun σ' H'=>∃ρ,RS A [] ρ σ'/\Rep T A X.K [] [] H'/\Same H0 H'/\QgZ i (exs T cf d body) (xs.drop (n+1)) ρ=some (fl,ρ'),fun σ' H' ⟨ρ2,z1,z2,z3,z4⟩=>⟨xs.length-(n+1),by omega,ρ2,z1,z2,z3,l,rfl,z4⟩,?_⟩
  rintro x H' ⟨rfl,hx⟩;have ex:x=v:=Option.some.inj ((hx vs sqH).symm.trans hv);subst ex;have rs2:=rs.set i rx;simp only [QgZ]at e;split at e
  ·rename_i ρ2 h2 eb
   exact TIS.run rs2 R eb fun α3 σ3 H3 E3 R3 rs3=>⟨frg ρ2,rs3.frg,R3.none,fun b o z=>E3.keep b o (sm b o z) (by simp),e⟩
  ·rename_i ρ2 h2 eb
   exact TIS.run rs2 R eb fun α3 σ3 H3 E3 R3 rs3=>⟨frg ρ2,rs3.frg,R3.none,fun b o z=>E3.keep b o (sm b o z) (by simp),e⟩
  ·rename_i ρ2 h2 eb;cases e
   exact TIS.run rs2 R eb fun α3 σ3 H3 E3 R3 rs3=>fin (fun b o z=>E3.keep b o (sm b o z) (by simp)) R3.none rs3.frg
  ·rename_i u ρ2 h2 eb;split at e
   case isFalse=>cases e
   rename_i su;cases e
   exact TIS.run rs2 R eb fun α3 σ3 H3 E3 R3 rs3 v rv=>fin (fun b o z=>E3.keep b o (sm b o z) (by simp)) R3.none rs3.frg v (RU.scal su rv)
  ·cases e
 ·have ed:xs.drop n=[]:=List.drop_eq_nil_of_le (by omega)
  rw [ed]at e;cases e
  exact .inl ⟨⟨vs,sqH,by rw [<-rv.length];omega⟩,fin sm R rs⟩
theorem RU.back{α α':List Addr}{u:U}{v v0:V}(p:∀(n:Nat) a,α[n]?=some a->α'[n]?=some a)(h0:RU A α u v0)(h:RU A α' u v):RU A α u v:=by
 cases u with
 | ref n =>
  obtain⟨a,e,_⟩:=h0;obtain⟨b,e2,r⟩:=h;rw [p n a e]at e2;cases e2;exact⟨a,e,r⟩
 | _=>exact h
theorem Qad{β γ:Type}{P Q R:β->γ->Prop}(f:∀b c c',P b c->Q b c'->R b c'):∀{l:List β} {m m':List γ},Paired P l m->Paired Q l m'->Paired R l m'
 | _,_,_,.nil,.nil=>.nil
 | _,_,_,.cons a s,.cons b t=>.cons (f _ _ _ a b) (Qad f s t)
theorem RO.back{α α':List Addr}{H H':Hp}{a:Addr}{o:O}(p:∀(n:Nat) a,α[n]?=some a->α'[n]?=some a)(h0:RO T A α H a o)(h:RO T A α' H' a o):RO T A α H' a o:=by
 cases o with
 | lst xs=>obtain⟨_,_,r0⟩:=h0;obtain⟨vs,e,r⟩:=h;exact⟨vs,e,Qad (R:=RU A α) (fun _ _ _ x y=>RU.back p x y) r0 r⟩
 | tup xs=>obtain⟨_,_,r0⟩:=h0;obtain⟨vs,e,r⟩:=h;exact⟨vs,e,Qad (R:=RU A α) (fun _ _ _ x y=>RU.back p x y) r0 r⟩
 | ins c fs=>obtain⟨_,_,_,r0,_⟩:=h0;obtain⟨dx,fv,e,r,l⟩:=h;exact⟨dx,fv,e,Qad (fun _ _ _ x y=>⟨y.1,RU.back p x.2 y.2⟩) r0 r,l⟩
 | dic _=>obtain⟨_,_,r0⟩:=h0;obtain⟨kv,e,r⟩:=h;exact⟨kv,e,Qad (fun _ _ _ x y=>⟨y.1,RU.back p x.2 y.2⟩) r0 r⟩
 | dct _=>obtain⟨_,_,r0⟩:=h0;obtain⟨kv,e,r⟩:=h;exact⟨kv,e,Qad (fun _ _ _ x y=>⟨y.1,RU.back p x.2 y.2⟩) r0 r⟩
 | fzd _=>obtain⟨_,_,_,r0⟩:=h0;obtain⟨kv,ob,e,r⟩:=h;exact⟨kv,ob,e,Qad (fun _ _ _ x y=>⟨y.1,RU.back p x.2 y.2⟩) r0 r⟩
 | err _=>exact h
theorem Rep.drop{K:PySem.W.Frag}{α α1:List Addr}{hs h1:Hs}{H H1:Hp}(R:Rep T A K α hs H)(E1:Ext α α1 H H1)(R1:Rep T A K α1 h1 H1)(hp:h1.take hs.length=hs):Rep T A K α hs H1/\Ext α α H H1:=by
 refine⟨⟨⟨R.h.len,R.h.nd,fun n a o e1 e2=>?_⟩,R1.s⟩,⟨fun _ _ e=>e,fun n b e l=>by have:=getElem?_lt e;omega,E1.keep,E1.fz⟩⟩
 have l:n<hs.length:=(List.getElem?_eq_some_iff.mp e2).1;refine RO.back E1.pre (R.h.ob n a o e1 e2) (R1.h.ob n a o (E1.pre n a e1) ?_);rw [<-hp,List.getElem?_take_of_lt l]at e2;exact e2
theorem QjR{e:Expr}{e':Iv.E}{d:Nat}(h:∀d,PE X e (TI T A X.K (ev T cf d e'))):PE X e (TI T A X.K (ev T cf d (.zap e'))):=by
 cases d with
 | zero=>exact Zw QiJ
 | succ d =>
  refine QE (h d) ?_;rintro σ H Q ⟨α,ρ,hs,u,hs',rs,R,e,q⟩;simp only [ev]at e;split at e
  ·rename_i u1 h1 e1;split at e
   ·rename_i c;cases e;refine TI.run rs R e1 fun α1 v H1 E1 R1 r1 rs1=>?_;obtain⟨R2,E2⟩:=R.drop E1 R1 c.2;exact q α v H1 E2 R2 (RU.scal c.1 r1)
   ·cases e;exact TI.run rs R e1 fun α1 v H1 E1 R1 r1 rs1=>q α1 v H1 E1 R1 r1
  ·cases e
theorem QeH{n:Nat}{ρ:Rho}{i:Nat}{u:U}(h:(frgN n ρ)[i]?=some (some u)):ρ[i]?=some (some u)/\∀k,u=.ref k->k<n:=by
 unfold frgN at h;rw [List.getElem?_map]at h
 cases q:ρ[i]? with
 | none=>rw [q]at h;cases h
 | some o =>
  rw [q]at h;simp only [Option.map_some,Option.some.injEq]at h;unfold JE at h;split at h
  ·split at h
   ·rename_i l;cases h
    exact⟨rfl,fun k z=>by cases z;exact l⟩
   ·cases h
  ·rename_i nr;subst h
   exact⟨rfl,fun k z=>absurd (by rw [z]) (nr k)⟩
theorem RS.frgN{α α':List Addr}{ρ:Rho}{σ:St}(p:∀(n:Nat) a,α[n]?=some a->α'[n]?=some a)(r:RS A α' ρ σ):RS A α (Iv.frgN α.length ρ) σ:=⟨by rw [<-r.len];simp [Iv.frgN],fun i u e=>by
 obtain⟨e1,hk⟩:=QeH e;obtain⟨v,h1,h2⟩:=r.val i u e1;refine⟨v,h1,?_⟩
 cases u with
 | ref k =>
  have l:=hk k rfl;obtain⟨a,e2,rfl⟩:=h2;have e3:α[k]?=some α[k]:=List.getElem?_eq_getElem l;have e4:=p k _ e3;rw [e2]at e4;cases e4;exact⟨_,e3,rfl⟩
 | _=>exact h2⟩
theorem Qct{d i:Nat}{body:List S}{a:Addr}{D:Ends}{α0:List Addr}{H0:Hp}{σ0:St}{ρ0 ρ':Rho}{h0:Hs}{xs:List U}{vs:List V}{fl:Fl}(rs0:RS A α0 ρ0 σ0)(R0:Rep T A X.K α0 h0 H0)(ha:H0 a=some (.lst vs))(hn:a∉α0)(rv:RUs A α0 xs vs)
  (e0:Qc1 h0 i (exs T cf d body) xs ρ0=some (fl,ρ'))
  (q:∀σ' H',Ext α0 α0 H0 H'->Rep T A X.K α0 h0 H'->RS A α0 ρ' σ'->flE A α0 D σ' H' fl):
  ∃W:Nat->Nat->St->Hp->Prop,(∃m,W 0 m σ0 H0)/\∀n m σ H,W n m σ H->((Itl X.K a).stop n H/\D.nx σ H)\/((Itl X.K a).go n H/\∃N:St->Hp->Prop,(∀σ' H',N σ' H'->∃m',m'<m/\W (n+1) m' σ' H') /\
   ∀x H',(Itl X.K a).yld n H x H'->Y9 i x σ H' fun σ2 H2=>TIS T A X.K (exs T cf d body) { D with nx:=N,ct:=N,bk:=D.nx } σ2 H2):=by
 have ln0:α0.length=h0.length:=R0.h.len;refine⟨fun n m σ H=>∃ρ,RS A α0 ρ σ/\Rep T A X.K α0 h0 H/\Ext α0 α0 H0 H/\n<=xs.length/\m=xs.length-n/\Qc1 h0 i (exs T cf d body) (xs.drop n) ρ=some (fl,ρ'),⟨_,ρ0,rs0,R0,Ext.refl,Nat.zero_le _,rfl,e0⟩,?_⟩;rintro n m σ H ⟨ρ,rs,R,sm,ln,em,e⟩;have sqH:SqL X.K H a vs:=.inl (.inl (sm.keep a _ ha hn));by_cases l:n<xs.length
 ·have ed:xs.drop n=xs[n]::xs.drop (n+1):=List.drop_eq_getElem_cons l;rw [ed]at e;obtain⟨v,hv,rx⟩:=rv.get (List.getElem?_eq_getElem l)
  refine .inr ⟨⟨vs,v,sqH,hv⟩,fun σ' H'=>∃ρ,RS A α0 ρ σ'/\Rep T A X.K α0 h0 H'/\Ext α0 α0 H0 H'/\Qc1 h0 i (exs T cf d body) (xs.drop (n+1)) ρ=some (fl,ρ'),fun σ' H' ⟨ρ2,z1,z2,z3,z4⟩=>⟨xs.length-(n+1),by omega,ρ2,z1,z2,z3,l,rfl,z4⟩,?_⟩
  rintro x H' ⟨rfl,hx⟩;have ex:x=v:=Option.some.inj ((hx vs sqH).symm.trans hv);subst ex;have rs2:=rs.set i rx;simp only [Qc1]at e;split at e
  case h_2=>cases e
  rename_i fl2 ρ2 h2 eb;split at e
  case isFalse=>cases e
  rename_i pre
  have nxt:∀{α3:List Addr} {σ3:St} {H3:Hp},Ext α0 α3 H' H3->Rep T A X.K α3 h2 H3->RS A α3 ρ2 σ3->RS A α0 (frgN h0.length ρ2) σ3/\Rep T A X.K α0 h0 H3/\Ext α0 α0 H0 H3:=fun {α3 σ3 H3} E3 R3 rs3=>by
   obtain⟨R4,E4⟩:=R.drop E3 R3 pre;exact⟨ln0▸RS.frgN E3.pre rs3,R4,sm.trans E4 R4.h⟩
  cases fl2 with
  | next=>exact TIS.run rs2 R eb fun α3 σ3 H3 E3 R3 rs3=>let ⟨z1,z2,z3⟩:=nxt E3 R3 rs3;⟨_,z1,z2,z3,e⟩
  | cont=>exact TIS.run rs2 R eb fun α3 σ3 H3 E3 R3 rs3=>let ⟨z1,z2,z3⟩:=nxt E3 R3 rs3;⟨_,z1,z2,z3,e⟩
  | brk =>
   cases e;exact TIS.run rs2 R eb fun α3 σ3 H3 E3 R3 rs3=>let ⟨z1,z2,z3⟩:=nxt E3 R3 rs3;q _ _ z3 z2 z1
  | ret u =>
   simp only at e;split at e
   case isFalse=>cases e
   rename_i su;cases e;exact TIS.run rs2 R eb fun α3 σ3 H3 E3 R3 rs3 v rv=>let ⟨z1,z2,z3⟩:=nxt E3 R3 rs3;q _ _ z3 z2 z1 v (RU.scal su rv)
 ·have ed:xs.drop n=[]:=List.drop_eq_nil_of_le (by omega)
  rw [ed]at e;cases e
  exact .inl ⟨⟨vs,sqH,by rw [<-rv.length];omega⟩,q _ _ sm R rs⟩
theorem RF.put{α:List Addr}{x:Str}{i:Nat}{u:U}{v:V}(hk:T.fns'[i]?=some x)(nd:T.fns'.Nodup)(r:RU A α u v):∀{fs:List (Nat×U)} {fv:List (Str×V)},RF T A α fs fv->RF T A α (Qh6 i u fs) (Y1 x v fv)
 | _,_,.nil=>.cons ⟨hk,r⟩ .nil
 | _,_,.cons (a:=p) (b:=q) h t=>by
  obtain⟨pk,pu⟩:=p;obtain⟨qx,qv⟩:=q;simp only [Qh6,Y1];by_cases e:pk=i
  ·subst e;have e2:qx=x:=Option.some.inj (h.1.symm.trans hk);subst e2;rw [if_pos rfl,if_pos rfl];exact .cons ⟨hk,r⟩ t
  ·have n2:¬qx=x:=fun z=>by
    subst z;obtain⟨l1,q1⟩:=List.getElem?_eq_some_iff.mp hk;obtain⟨l2,q2⟩:=List.getElem?_eq_some_iff.mp h.1;exact e ((List.getElem_inj nd).mp (q2.trans q1.symm))
   rw [if_neg e,if_neg n2];exact .cons h (RF.put hk nd r t)
theorem RF.length{α:List Addr}{fs:List (Nat×U)}{fv:List (Str×V)}(r:RF T A α fs fv):fs.length=fv.length:=Paired.length r
theorem Qcj{e:Expr}(h:Qck e=true):∃p,e=.Dict [] [] p:=by
 unfold Qck at h;split at h
 ·exact⟨_,rfl⟩
 ·cases h
theorem Qc6{b:List Stmt}{hs:List ExceptHandler}{o fn:List Stmt}{t:Tr}(h:Qc7 C b hs o fn=some t):∃f pf a args q1 q2 x px n y py pn pa ph,b=[.Expr (.Call (.Name f pf) (a::args) [] q1) q2] /\
  hs=[.ExceptHandler (some (.Name x px)) (some n) [.Assign [.Name y py] (.Name n pn) pa] ph]/\o=[]/\fn=[]/\Qc9 C n y=some (t.i,t.j)/\Qdd C x=some t.c/\Qdb C f=some t.f/\t.args=a::args:=by
 unfold Qc7 at h;split at h
 ·split at h
  ·rename_i n' hn;subst hn;simp only [Option.bind_eq_some_iff]at h;obtain⟨p,hp,c,hc,k,hk,h⟩:=h;cases h;exact⟨_,_,_,_,_,_,_,_,_,_,_,_,_,_,rfl,rfl,rfl,rfl,hp,hc,hk,rfl⟩
  ·cases h
 ·cases h
theorem Qc8 {n y : Str} {i j : Nat} (h : Qc9 C n y = some (i, j)) : ZM C n = true /\ ZM C y = true /\ n ≠ y /\ n ≠ "__debug__" /\ idx y C.N = some i /\ idx n C.N = some j := by
 unfold Qc9 at h;split at h
 ·rename_i c;simp only [Bool.and_eq_true,decide_eq_true_eq]at c;simp only [Option.bind_eq_some_iff]at h;obtain⟨i',hi,j',hj,h⟩:=h;cases h;exact⟨c.1.1.1,c.1.1.2,c.1.2,c.2,hi,hj⟩
 ·cases h
theorem Qdc {x : Str} {c : Nat} (h : Qdd C x = some c) : ZQ C x = true /\ x ≠ "__debug__" /\ C.gl.lookup x = some (.cls c) := by
 unfold Qdd at h;split at h
 ·rename_i q;simp only [Bool.and_eq_true,decide_eq_true_eq]at q;split at h
  ·rename_i z;cases h;exact⟨q.1,q.2,z⟩
  ·cases h
 ·cases h
theorem Qda {x : Str} {c : Nat} (h : Qdb C x = some c) : ZQ C x = true /\ x ≠ "__debug__" /\ C.gl.lookup x = some (.fn c) := by
 unfold Qdb at h;split at h
 ·rename_i q;simp only [Bool.and_eq_true,decide_eq_true_eq]at q;split at h
  ·rename_i z;cases h;exact⟨q.1,q.2,z⟩
  ·cases h
 ·cases h
structure Bd(X:Cx):Prop where
 stk:X.stack=X.env::X.outer
 frm:X.env.frame=some X.env.locals
 ex:X.ex=[]
theorem QjS{b:List Stmt}{hs:List ExceptHandler}{o fn:List Stmt}{p:Pos}{t:Tr}{d:Nat}{es:List E}(bX:Bd X)(g:GX T A C X)(F:Fc X T A cf k)(hr:Room k X.A)(S:Snd T A C X cf m)(ht:Qc7 C b hs o fn=some t)(ha:compA m C t.args=some es):
  PS X (.Try b hs o fn p) (TIS T A X.K (ex T cf (d+1) (.tryE t.i t.j t.f es t.c))):=by
 obtain⟨f,pf,a,args,q1,q2,x,px,n,y,py,pn,pa,ph,rfl,rfl,rfl,rfl,t1,t2,t3,t4⟩:=Qc6 ht;obtain⟨ln,ly,nny,nd,hi,hj⟩:=Qc8 t1;obtain⟨gx,dx,lx⟩:=Qdc t2;obtain⟨gf,df,lf⟩:=Qda t3;rw [t4]at ha;have hns:=Qn ha;have st:starEach (a::args) X.env=(false,eval a X.env)::starEach args X.env:=Qk (hns a (List.mem_cons_self ..));have sa:(backTo q1 (starEach args X.env)).any (·.1)=false:=Q4 fun z hz=>hns z (List.mem_cons_of_mem _ hz);intro pins s σ H D I q;obtain⟨α,ρ,hs0,fl,ρ',hs',rs,R,e,q⟩:=q;simp only [Iv.ex]at e;obtain⟨us,hh1,e1,e⟩:=Qb e;refine wpAny_Try_except ?_
 have sw:swapsWith (.Call (.Name f pf) (a::args) [] q1) none q2.line X.env=pure false:=by rfl
 split at e
 ·rename_i u0 h2 ec;cases e;have P1:PS X (.Expr (.Call (.Name f pf) (a::args) [] q1) q2) _:=QbP (Qfb (d:=d) g F hr S gf df lf ha) sw;have P2:=Qf1 P1
  have r:=P2 pins s σ H D I (TI.run rs R (u:=u0) (h1:=_) (by simp only [ev,e1,Iv.bd];exact ec) fun α1 v H1 E1 R1 r1 rs1=>q α1 σ H1 E1 R1 rs1)
  rw [g.xe]at r ⊢;refine wpAny_mono r (fun fl' s1 z=>?_) fun _ _ z=>z.elim
  cases fl' with
  | next=>exact wpAny_execs_nil z
  | ret v=>exact z
  | brk=>exact z
  | cont=>exact z
 ·rename_i ec;split at e
  case h_2=>cases e
  rename_i c' h2 ex';rw [Option.ite_none_right_eq_some]at e;obtain⟨⟨c1,c2,c3⟩,e⟩:=e;cases e
  cases hF:T.fns[t.f]? with
  | none=>rw [hF]at c3;cases c3
  | some Fn =>
  rw [hF]at c3;have c3:us.length=Fn.np:=of_decide_eq_true c3;obtain⟨fd,G,bb,kp⟩:=F.xf t.f Fn hF;refine wpAny_execs_cons (wpAny_Expr_any ?_ I.quiet sw);refine wpAny_Call_Name_kw (Zj I (QZ g gf) (g.gfn f t.f lf) ?_ (QO df));have pa0:=S.a d (a::args) es ha q1 pins s σ H (fun vs H1=>∃α1,Ext α α1 H H1/\Rep T A X.K α1 hh1 H1/\RUs A α1 us vs) I ⟨α,ρ,hs0,us,hh1,rs,R,e1,fun α' vs H' E' R' r'=>⟨α',E',R',r'⟩⟩;rw [g.xe]at pa0;refine PySem.W.callWith_K (h₀:=X.base) I.ok.mod.kin kp (wpAny_mono pa0 (fun us1 s1 ⟨vs,H1,I1,r,α1,E1,R1,ru⟩=>⟨I1.kIn,?_⟩) fun _ _ z=>z.elim) st sa
  have ll:us1.length=Fn.ps.length:=by
   obtain⟨fd',fn',_,_,lp,_⟩:=g.txt.fn t.f Fn hF;rw [lp,<-c3,ru.length,r.length]
  have hsp:spX T A X.K T.xf t.f vs H1 (fun _ _=>False) (fun Cv o H'=>Cv=.ref (A.c c')/\∃α',Ext α1 α' H1 H'/\Rep T A X.K α' h2 H'):=
   ⟨α1,us,hh1,c',h2,ru,R1,ex',⟨Fn,hF,c3⟩,fun α' H' E' R'=>⟨rfl,α',E',R'⟩⟩
  refine wpAny_call (codeAny_mono (G.run X.A X.stack s1 H1 ⟨us1,[]⟩ us1 vs _ _ hr I1.env0 (by have:=bb s1 us1 I1.kIn (by rw [List.append_nil];exact ll);rw [List.append_nil]at this;exact this) r hsp) fun rr s' hq=>?_)
  cases rr with
  | ok fl =>
   cases fl with
   | ret u =>
    obtain⟨_,_,_,_,_,_,_,z⟩:=hq;exact z.elim
   | next=>exact False.elim hq
   | brk=>exact False.elim hq
   | cont=>exact False.elim hq
  | error ev =>
   obtain⟨e0,C0,H',B,a0,rfl,os,bare,un,hok,flw,cv,hn,hs0',⟨hC,α2,E2,R2⟩⟩:=hq;cases hC
   have h00:X.s₀.heap.get? e0=none:=by
    cases q:X.s₀.heap.get? e0 with
    | none=>rfl
    | some ob =>
     obtain⟨o',ho⟩:=I1.base.there e0 ob q (by rw [bX.ex];simp)
     rw [hs0']at ho;cases ho
   have kl:∀z,ZM C z=true->X.env.scope.names.lookup z=some .local:=fun z hz=>by rw [g.sc];exact Yq hz
   have ij:t.i≠t.j:=fun z=>by
    have z1:=QP hi;have z2:=QP hj;rw [z,z2]at z1;exact nny (Option.some.inj z1)
   refine Qjb bX.stk bX.frm g.nd I1 os bare un hok flw cv hn hs0' h00 (QZ g gx) (g.gcl x t.c lx) (g.txt.es c' t.c c2) (QO dx) (by rw [g.N];exact QP hj) (kl n ln) (by rw [g.N];exact QP hi) (kl y ly) ij (QO nd) rfl fun s'' J=>?_
   obtain⟨R3,E3⟩:=R2.new (p:=e0) (o:=.err c') (ho:=Qfo e0 (A.c c')) hn ⟨Qg,c1⟩;refine⟨_,_,J,?_⟩;have rs3:=((rs.mono E1.pre).mono E2.pre).mono E3.pre
   have at3:(α2++[e0])[h2.length]?=some e0:=by rw [<-R2.h.len];exact Qz
   have rs4:=rs3.set t.i (u:=.ref h2.length) (v:=.ref e0) ⟨e0,at3,rfl⟩
   refine q _ _ _ ((E1.trans E2 R2.h).trans E3 R3.h) R3 ⟨by simpa using rs4.len,fun k u e=>?_⟩
   have hk:k≠t.j:=fun z=>by
    subst z
    have l:t.j<(ρ.set t.i (some (.ref h2.length))).length:=(List.getElem?_eq_some_iff.mp e).1 |> fun z=>by simpa using z
    rw [List.getElem?_set_self l]at e;cases e
   rw [List.getElem?_set_ne (Ne.symm hk)]at e;rw [List.getElem?_set_ne (Ne.symm hk)];exact rs4.val k u e
theorem QhI(bX:Bd X)(F:Fc X T A cf k)(hr:Room k X.A)(hu:X.A.units+1<cLine)(g:GX T A C X)(fl:∀x,X.fn x=true\/X.env.scope.names.lookup x=some .local)(S2:Snd2 T A C X cf m)(SS:SndS T A C X cf m)(d:Nat)(st:Stmt)(ir:Iv.S)(h:Q6 (m+1) C st=some ir):PS X st (TIS T A X.K (ex T cf d ir)):=by
 have S:=S2.s;refine Qeb fun d=>?_
 cases st with
 | Pass p=>cases h;exact Zk Qf5 fun D σ H ⟨α,ρ,hs,fl,ρ',hs',rs,R,e,q⟩=>by cases e;exact q α σ H Ext.refl R rs
 | Break p=>cases h;exact Zk Qec fun D σ H ⟨α,ρ,hs,fl,ρ',hs',rs,R,e,q⟩=>by cases e;exact q α σ H Ext.refl R rs
 | Continue p=>cases h;exact Zk Qaa fun D σ H ⟨α,ρ,hs,fl,ρ',hs',rs,R,e,q⟩=>by cases e;exact q α σ H Ext.refl R rs
 | Expr e p =>
  simp only [Q6]at h;split at h
  ·rename_i hd;obtain⟨x,j,q,rfl⟩:=QeM hd;cases h
   exact Zk Qic fun D σ H ⟨α,ρ,hs,fl,ρ',hs',rs,R,e,q⟩=>by cases e;exact q α σ H Ext.refl R rs
  ·cases h
  ·rename_i hn;simp only [Option.map_eq_some_iff]at h;obtain⟨e',he,rfl⟩:=h
   refine Zk (QbP (S.e d e e' he) (QaT he fun elt gens scope q z=>by subst z;cases hn)) ?_
   rintro D σ H ⟨α,ρ,hs,fl,ρ',hs',rs,R,e,q⟩;simp only [ex]at e;obtain⟨u,h1,e1,e⟩:=Qb e;cases e;exact TI.run rs R e1 fun α1 x H1 E1 R1 r1 rs1=>q α1 σ H1 E1 R1 rs1
 | Return v p =>
  cases v with
  | none =>
   cases h
   exact Zk Qf4 fun D σ H ⟨α,ρ,hs,fl,ρ',hs',rs,R,e,q⟩=>by cases e;exact q α σ H Ext.refl R rs .non rfl
  | some e =>
   simp only [Q6,Option.map_eq_some_iff]at h;obtain⟨e',he,rfl⟩:=h;refine Zk (Qh9 (S.e d e e' he)) ?_;rintro D σ H ⟨α,ρ,hs,fl,ρ',hs',rs,R,e,q⟩;simp only [ex]at e;obtain⟨u,h1,e1,e⟩:=Qb e;cases e;exact TI.run rs R e1 fun α1 x H1 E1 R1 r1 rs1=>q α1 σ H1 E1 R1 rs1 x r1
 | Raise x c p =>
  simp only [Q6]at h;split at h
  ·simp only [Option.bind_eq_some_iff]at h;obtain⟨es,_,h⟩:=h;cases h
   exact Yx fun D σ H ⟨_,_,_,_,_,_,_,_,e,_⟩=>by simp [ex]at e
  ·cases h
   exact Yx fun D σ H ⟨_,_,_,_,_,_,_,_,e,_⟩=>by simp [ex]at e
 | Try b hs o fn p =>
  simp only [Q6,Option.bind_eq_some_iff]at h;obtain⟨t,ht,es,hes,h⟩:=h;cases h;exact QjS bX g F hr S ht hes
 | AugAssign t o e p=>simp [Q6]at h
 | If t a b p =>
  simp only [Q6,Option.bind_eq_some_iff]at h;obtain⟨t',ht,a',ha,b',hb,h⟩:=h;cases h;refine Zk (Qia (S.t d t t' ht).1 (SS.ss d a a' ha) (SS.ss d b b' hb)) ?_;rintro D σ H ⟨α,ρ,hs,fl,ρ',hs',rs,R,e,q⟩;simp only [ex]at e;split at e
  ·rename_i h1 e1;refine TIT.run rs R e1 fun α1 H1 E1 R1 rs1=>?_;rw [if_pos rfl];exact TIS.run rs1 R1 e fun α2 σ2 H2 E2 R2 rs2=>q α2 σ2 H2 (E1.trans E2 R2.h) R2 rs2
  ·rename_i h1 e1;refine TIT.run rs R e1 fun α1 H1 E1 R1 rs1=>?_;rw [if_neg Bool.false_ne_true];exact TIS.run rs1 R1 e fun α2 σ2 H2 E2 R2 rs2=>q α2 σ2 H2 (E1.trans E2 R2.h) R2 rs2
  ·cases e
 | While t a b p=>simp [Q6]at h
 | For tg it a b p =>
  cases b with
  | cons _ _=>simp [Q6]at h
  | nil =>
   simp only [Q6,Option.bind_eq_some_iff]at h;obtain⟨tg',ht,it',hi,h⟩:=h;split at h
   ·rename_i i0 hk;simp only [Option.bind_eq_some_iff]at h;obtain⟨e',he,a',ha,h⟩:=h;cases h
    have et:tg'=.name i0:=by
     unfold Qkr at hk;split at hk
     case h_2=>cases hk
     split at hk
     case h_2=>cases hk
     split at hk
     case isFalse=>cases hk
     cases hk;rfl
    subst et
    refine Zk (Qf3 (QaJ (by rw [g.xe];exact PassesOwn.never) g.calm (Qgb (S.e d it e' he)) (Qjp g fl ht) (SS.ss d a a' ha) (YM hi))) ?_
    rintro D σ H ⟨α,ρ,hs,fl,ρ',hs',rs,R,e,q⟩;simp only [ex]at e;obtain⟨u,h1,e1,e⟩:=Qb e;split at e
    case h_2=>cases e
    rename_i n kvs ed;obtain⟨rfl,⟨k0,hk0⟩,hk1⟩:=QeU ed;unfold Qht at e;split at e
    case h_2=>cases e
    rename_i fl' ρ2 h2 ef;split at e
    case h_2=>cases e
    rename_i kvs' hk2;cases e;obtain⟨a0,ha0,kv0,hH0,rd0⟩:=R.h.adr hk0;refine⟨a0,kv0,hH0,TI.run rs R e1 fun α1 x H1 E1 R1 r1 rs1=>?_⟩;obtain⟨a1,ha1,rfl⟩:=r1
    have ea:a1=a0:=by
     have:=E1.pre n a0 ha0;rw [ha1]at this;exact Option.some.inj this
    subst ea;obtain⟨kv1,hH1,rd1⟩:=R1.h.ob n a1 _ ha1 hk1;refine⟨a1,kv1,rfl,hH1,fun ob=>?_⟩;have R2:Rep T A X.K α1 (h1.set n (.fzd kvs)) (upd H1 a1 (.frz ob (.dK kv1))):=R1.put0 ha1 ⟨kv1,ob,Qg,rd1⟩;have ne:∀b o,H1 b=some o->b∉α1->b≠a1:=fun b o _ hb z=>hb (z▸List.mem_of_getElem? ha1);refine Qcs rs1 R2 Qg rd1 ef fun α3 σ3 H3 E3 R3 rs3=>?_;have z3:=E3.fz a1 ob kv1 Qg;have ha3:=E3.pre n a1 ha1;obtain⟨kv3,ob3,hH3,rd3⟩:=R3.h.ob n a1 _ ha3 hk2;rw [z3]at hH3;cases hH3;have R4:Rep T A X.K α3 (h2.set n (.dic kvs')) (upd H3 a1 (.dK kv1)):=R3.put0 ha3 ⟨kv1,Qg,rd3⟩
    have E4:Ext α1 α3 H1 (upd H3 a1 (.dK kv1)):=by
     refine⟨E3.pre,fun k b e l=>?_,fun b o e hb=>?_,fun b o kv e=>?_⟩
     ·have hn:=E3.new k b e l
      have hb:b≠a1:=fun z=>by rw [z,Qg]at hn;cases hn
      rw [Qe hb]at hn;exact hn
     ·have hb':=ne b o e hb;rw [Qe hb']
      exact E3.keep b o (by rw [Qe hb'];exact e) hb
     ·have hb':b≠a1:=fun z=>by rw [z,hH1]at e;cases e
      rw [Qe hb']
      exact E3.fz b o kv (by rw [Qe hb'];exact e)
    have fin:=q α3 σ3 _ (E1.trans E4 R4.h) R4 rs3
    cases fl with
    | next=>exact⟨ob,kv1,z3,fin⟩
    | brk=>exact⟨ob,kv1,z3,fin⟩
    | cont=>exact⟨ob,kv1,z3,fin⟩
    | ret u=>exact fun v rv=>⟨ob,kv1,z3,fin v rv⟩
   split at h
   case isFalse=>cases h
   rename_i ok;simp only [Option.bind_eq_some_iff]at h;obtain⟨a',ha,h⟩:=h;split at h
   ·rename_i i lo hi hlc;by_cases ld:C.T.ld=true
    ·rw [if_pos ld]at h;cases h
     refine Zk (QaJ (by rw [g.xe];exact PassesOwn.never) g.calm (S2.w d it _ tg hi (fun z=>nomatch z)) (Qjp g fl ht) (SS.ss d a a' ha) (YM hi)) ?_
     rintro D σ H ⟨α,ρ,hs,fl,ρ',hs',rs,R,e,q⟩;simp only [ex]at e;obtain⟨u,h1,e1,e⟩:=Qb e;split at e
     case h_2=>cases e
     rename_i n;split at e
     case h_2=>cases e
     rename_i xs el;split at e
     case isFalse=>cases e
     rename_i cnd;obtain⟨rfl,pre,sc⟩:=cnd;split at e
     case h_2=>cases e
     rename_i fl' ρ2 ef;cases e
     have el':Zg T (.ref hs.length) h1=some xs:=by simp only [Zg,el]
     refine⟨α,ρ,hs,.seqL (.ref hs.length),h1,rs,R,by simp only [YH,bd,e1,wkS,el',Option.map_some],fun α1 J H1 E1 R1 W1=>?_⟩
     obtain⟨pa,r1,rfl⟩:=W1;obtain⟨pa',hp1,e3⟩:=r1;cases e3;obtain⟨vs,hv,rr⟩:=R1.h.ob _ _ _ hp1 el;obtain⟨R2,E2⟩:=R.drop E1 R1 pre
     have hpn:H pa=none:=E1.new _ _ hp1 (by rw [R.h.len];exact Nat.le_refl _)
     exact Qct rs R2 hv (R.h.notIn hpn) (RUs.scal sc rr) ef fun σ2 H2 E3 R3 rs3=>q α σ2 H2 (E2.trans E3 R3.h) R3 rs3
    rw [if_neg ld]at h;cases h
    -- a loop over scalars
    refine Zk (QaJ (by rw [g.xe];exact PassesOwn.never) g.calm (S2.w d it _ tg hi (fun z=>nomatch z)) (Qjp g fl ht) (SS.ss d a a' ha) (YM hi)) ?_
    rintro D σ H ⟨α,ρ,hs,fl,ρ',hs',rs,R,e,q⟩;simp only [ex]at e;obtain⟨u,h1,e1,e⟩:=Qb e;split at e
    case h_2=>cases e
    rename_i xs el;split at e
    case isFalse=>cases e
    rename_i sc;split at e
    case h_2=>cases e
    rename_i fl' ρ2 ef;cases e
    refine⟨α,ρ,hs,.seqL u,hs',rs,R,by simp only [YH,bd,e1,wkS,el,Option.map_some],fun α1 J H1 E1 R1 W1=>?_⟩
    obtain⟨pa,r1,rfl⟩:=W1;obtain⟨pa',vs,ea,rr,sq⟩:=Q5 g.txt R1 el r1;cases ea;exact Qcu g.txt (rs.mono E1.pre) R1 sq rr sc ef fun α2 σ2 H2 E2 R2 rs2=>q α2 σ2 H2 (E1.trans E2 R2.h) R2 rs2
   cases h
   refine Zk (QaJ (by rw [g.xe];exact PassesOwn.never) g.calm (S2.w d it _ tg hi (Qhu ht ok)) (Qjp g fl ht) (SS.ss d a a' ha) (YM hi)) ?_
   rintro D σ H ⟨α,ρ,hs,fl,ρ',hs',rs,R,e,q⟩;simp only [ex]at e;obtain⟨w,h1,e1,e⟩:=Qb e;refine⟨α,ρ,hs,w,h1,rs,R,e1,fun α1 J H1 E1 R1 W1=>?_⟩;exact QeK rfl g.txt (rs.mono E1.pre) R1 W1 e fun α2 σ2 H2 E2 R2 rs2=>q α2 σ2 H2 (E1.trans E2 R2.h) R2 rs2
 | Assign ts e p =>
  simp only [Q6]at h;split at h
  ·rename_i x ht;obtain⟨px,rfl⟩:=Qhe ht;split at h
   case isFalse=>cases h
   rename_i hl;simp only [Option.bind_eq_some_iff]at h;obtain⟨i,hi,h⟩:=h;split at h
   ·rename_i ce;cases h;rw [Bool.and_eq_true]at ce;obtain⟨pd,rfl⟩:=Qcj ce.1
    refine Zk (QaI (i:=i) g.nd (by rw [g.N];exact QP hi) (Jy g hl) Qeh (QaT (m:=1) (C:=C) (ir:=.dnew) (by rfl) (by intro _ _ _ _ z;cases z)) (fl x)) ?_
    rintro D σ H ⟨α,ρ,hs,fl,ρ',hs',rs,R,e,q⟩;simp only [ex]at e;obtain⟨u,h1,e1,e⟩:=Qb e;cases e
    cases d with
    | zero=>cases e1
    | succ d =>
     simp only [ev]at e1;cases e1;intro b hb;obtain⟨R',E'⟩:=R.new (o:=.dct []) (ho:=.dT []) hb ⟨[],Qg,.nil⟩
     exact q _ _ _ E' R' ((rs.mono E'.pre).set i ⟨b,by rw [<-R.h.len];exact Qz,rfl⟩)
   simp only [Option.bind_eq_some_iff]at h;obtain⟨e',he,h⟩:=h;cases h
   have fin:∀e' D σ H,TIS T A X.K (ex T cf (d+1) (.set i e')) D σ H->TI T A X.K (ev T cf d e') σ H fun v H1=>D.nx (σ.set i (some v)) H1:=by
    intro e';rintro D σ H ⟨α,ρ,hs,fl,ρ',hs',rs,R,e,q⟩;simp only [ex]at e;obtain⟨u,h1,e1,e⟩:=Qb e;cases e;exact TI.run rs R e1 fun α1 x H1 E1 R1 r1 rs1=>q α1 _ H1 E1 R1 (rs1.set i r1)
   unfold Qhm;by_cases hz:(C.T.zps.contains x&&QiH e)=true
   ·rw [if_pos hz];rw [Bool.and_eq_true]at hz
    exact Zk (QaI (i:=i) g.nd (by rw [g.N];exact QP hi) (Jy g hl) (QjR fun d=>S.e d e e' he) (QaT he fun elt gens scope q z=>by subst z;cases hz.2) (fl x)) (fin _)
   rw [if_neg hz];by_cases hc:∃elt gens scope q,e=.ListComp elt gens scope q
   ·obtain⟨elt,gens,scope,pc,rfl⟩:=hc;obtain⟨tg,iter,tl,xs,n,wi,gg,tt,te,rfl,ok,hi',hn',hg',ht',he',hf,imp⟩:=S2.c d elt gens scope pc e' he
    exact fun pins s σ H D I hq=>Qf6 g.calm g.nd ok hi' hn' hg' ht' he' hf (by rw [g.N];exact QP hi) (Jy g hl) (fl x) pins s σ H D I (imp σ H _ I.len (fin _ D σ H hq))
   ·exact Zk (QaI (i:=i) g.nd (by rw [g.N];exact QP hi) (Jy g hl) (S.e d e e' he) (QaT he fun elt gens scope q z=>hc ⟨elt,gens,scope,q,z⟩) (fl x)) (fin _)
  ·rename_i o f ht;obtain⟨pa,rfl⟩:=Qhf ht;split at h
   case isFalse=>cases h
   rename_i hn;simp only [Option.bind_eq_some_iff]at h;obtain⟨e',he,o',ho,i,hi,h⟩:=h;cases h
   have hk':T.fns'[i]?=some f:=by rw [<-g.CT];exact QP hi
   refine Zk (Qib (S.e d o o' ho) (S.e d e e' he) (Qgw he)) ?_;rintro D σ H ⟨α,ρ,hs,fl,ρ',hs',rs,R,e,q⟩;simp only [ex]at e;obtain⟨u,h1,e1,e⟩:=Qb e;obtain⟨u2,h2,e2,e⟩:=Qb e;refine TI.run rs R e1 fun α1 x H1 E1 R1 r1 rs1=>TI.run rs1 R1 e2 fun α2 y H2 E2 R2 r2 rs2=>?_;split at e
   case h_2=>cases e
   rename_i n;split at e
   case h_2=>cases e
   rename_i c fs eo;split at e
   case isFalse=>cases e
   rename_i l;cases e;obtain⟨a,ha,rfl⟩:=r2;obtain⟨dx,fv,q1,rf,lc⟩:=R2.h.ob n a _ ha eo;have cl:=g.txt.cl c _ (List.getElem?_eq_getElem lc)
   refine⟨a,A.c c,dx,fv,rfl,q1,cl.cls,cl.nf f (List.mem_of_getElem? hk'),by rw [<-RF.length rf];omega,?_⟩
   obtain⟨R',E'⟩:=R2.put (o:=.ins c (Qh6 i u fs)) (ho:=.ins (A.c c) dx (Y1 f x fv)) ha ⟨dx,_,Qg,RF.put hk' g.txt.fd (r1.mono E2.pre) rf,lc⟩;exact q α2 σ _ ((E1.trans E2 R2.h).trans E' R'.h) R' rs2
  ·rename_i o i ht;obtain⟨ps,rfl⟩:=Qe0 ht;split at h
   case isFalse=>cases h
   rename_i nsl;simp only [Option.bind_eq_some_iff]at h;obtain⟨e',he,o',ho,i',hi,h⟩:=h;cases h;refine Zk (Qfe (S.e d e e' he) (Qih (S.e d o o' ho) (S.e d i i' hi) (QhF Qd1 (Qd2 hu)) (Qbr nsl)) (Qgv he) rfl rfl) ?_;rintro D σ H ⟨α,ρ,hs,fl,ρ',hs',rs,R,e,q⟩;simp only [ex]at e;obtain⟨u,h1,e1,e⟩:=Qb e;obtain⟨x,h2,e2,e⟩:=Qb e;obtain⟨k,h3,e3,e⟩:=Qb e;simp only [Option.map_eq_some_iff]at e;obtain⟨h4,e4,e⟩:=e;cases e;refine TI.run rs R e1 fun α1 v H1 E1 R1 r1 rs1=>TI.run rs1 R1 e2 fun α2 y H2 E2 R2 r2 rs2=>TI.run rs2 R2 e3 fun α3 z H3 E3 R3 r3 rs3=>?_;unfold QlS at e4;split at e4
   case h_2=>cases e4
   rename_i n;split at e4
   case h_3=>cases e4
   case h_2 =>
    rename_i oo _ eo;obtain⟨a,ha,rfl⟩:=r2.mono E3.pre;obtain⟨H',g',R',E'⟩:=Qg1 R3 eo ha e4 r3 (r1.mono fun n a e=>E3.pre n a (E2.pre n a e));exact .inr ⟨a,H',rfl,g',q α3 σ _ (((E1.trans E2 R2.h).trans E3 R3.h).trans E' R'.h) R' rs3⟩
   rename_i xs eo;split at e4
   case h_2=>cases e4
   rename_i j;simp only [Option.map_eq_some_iff]at e4;obtain⟨p,ep,rfl⟩:=e4;obtain⟨a,ha,rfl⟩:=r2.mono E3.pre;cases Zi r3;obtain⟨vs,q1,rr⟩:=R3.h.ob n a _ ha eo
   refine .inl ⟨a,vs,j,p,rfl,rfl,q1,by rw [<-rr.length];exact ep,?_⟩
   obtain⟨R',E'⟩:=R3.put (o:=.lst (xs.set p u)) (ho:=.lst (vs.set p v)) ha ⟨_,Qg,RUs.set p (r1.mono fun n a e=>E3.pre n a (E2.pre n a e)) rr⟩;exact q α3 σ _ (((E1.trans E2 R2.h).trans E3 R3.h).trans E' R'.h) R' rs3
  ·rename_i x px y py ht;obtain⟨kt,pt,rfl⟩:=QeZ ht;split at h
   case isFalse=>cases h
   rename_i c;simp only [Bool.and_eq_true,decide_eq_true_eq]at c;obtain⟨⟨lx,ly⟩,nxy⟩:=c;simp only [Option.bind_eq_some_iff]at h;obtain⟨i,hi,j,hj,h⟩:=h
   have kx:X.env.scope.names.lookup x=some .local:=by rw [g.sc];exact Yq lx
   have ky:X.env.scope.names.lookup y=some .local:=by rw [g.sc];exact Yq ly
   have ix:X.N[i]?=some x:=by rw [g.N];exact QP hi
   have iy:X.N[j]?=some y:=by rw [g.N];exact QP hj
   split at h
   ·cases h
   ·split at h
    case isFalse=>cases h
    rename_i nt;simp only [Option.map_eq_some_iff]at h;obtain⟨e',he,rfl⟩:=h;refine Zk (Qfe (S.e d e e' he) (QbV g.calm (Zx (Yj g.nd ix (.inl kx) (.inr kx)) (Zx (Yj g.nd iy (.inl ky) (.inr ky)) Qab))) (Qgu he) (Jv nt) rfl) ?_;rintro D σ H ⟨α,ρ,hs,fl,ρ',hs',rs,R,e,q⟩;simp only [ex]at e;obtain⟨u,h1,e1,e⟩:=Qb e;simp only [Option.map_eq_some_iff]at e;obtain⟨ρ2,e2,e⟩:=e;cases e;refine TI.run rs R e1 fun α1 v H1 E1 R1 r1 rs1=>?_;exact Yc (t:=.pair i j) R1 rs1 r1 e2 fun σ2 r2=>q α1 σ2 H1 E1 R1 r2
  ·cases h
 | _=>exact nomatch (show(none:Option Iv.S)=some _ from h)
theorem QfQ(SS:SndS T A C X cf m)(d:Nat)(sts:List Stmt)(irs:List S)(h:compSs (m+1) C sts=some irs):PSs X sts (TIS T A X.K (exs T cf d irs)):=by
 cases d with
 | zero=>exact Z8 QiI
 | succ d =>
  cases sts with
  | nil =>
   cases h
   exact Qfz Qf2 fun D σ H ⟨α,ρ,hs,fl,ρ',hs',rs,R,e,q⟩=>by cases e;exact q α σ H Ext.refl R rs
  | cons st r =>
   simp only [compSs,Option.bind_eq_some_iff]at h;obtain⟨s',hs,r',hr,h⟩:=h;cases h;refine Qfz (Y2 (SS.s d st s' hs) (SS.ss d r r' hr)) ?_;rintro D σ H ⟨α,ρ,hs,fl,ρ',hs',rs,R,e,q⟩;simp only [exs]at e;split at e
   ·rename_i ρ1 h1 e1;exact TIS.run rs R e1 fun α1 σ1 H1 E1 R1 rs1=>TIS.run rs1 R1 e fun α2 σ2 H2 E2 R2 rs2=>q α2 σ2 H2 (E1.trans E2 R2.h) R2 rs2
   ·rename_i n1;refine TIS.run rs R e fun α1 σ1 H1 E1 R1 rs1=>?_
    cases fl with
    | next=>exact absurd e (n1 _ _)
    | cont=>exact q α1 σ1 H1 E1 R1 rs1
    | brk=>exact q α1 σ1 H1 E1 R1 rs1
    | ret u=>exact q α1 σ1 H1 E1 R1 rs1
theorem QjQ(bX:Bd X)(g:GX T A C X)(fl:∀x,X.fn x=true\/X.env.scope.names.lookup x=some .local)(F:Fc X T A cf k)(hr:Room (k+1) X.A):∀m,SndS T A C X cf m
 | 0=>⟨fun d st ir h=>by simp [Q6]at h,fun d sts irs h=>by simp [compSs]at h⟩
 | m+1=>by
  have SS:=QjQ bX g fl F hr m;exact⟨QhI bX F (hr.mono (Nat.le_succ k)) (QgI hr) g fl (Qfa m g F hr) SS,QfQ SS⟩
end
end Iv
namespace Iv
open PySem PySem.Spec PyProof.Rows L2
structure Top(T:Tbl)(A:Adr)(K:PySem.W.Frag)(mg:Str->Option Value)(gl:List (Str×G))(bl:List Str):Prop where
 txt:Txt T A K mg
 gfn:∀x i,gl.lookup x=some (.fn i)->mg x=some (.ref (A.f i))
 gcl:∀x i,gl.lookup x=some (.cls i)->mg x=some (.ref (A.c i))
 gco:∀x k,gl.lookup x=some (.con k)->mg x=some (.ref (A.k k))
 gtx:∀x t,gl.lookup x=some (.txt t)->∃k,mg x=some (.str ⟨t.toArray⟩ k)
 blt:∀x,¬bl.contains x=false->mg x=none
noncomputable def YA(T:Tbl)(gl:List (Str×G))(bl:List Str):Prop:=∀(i:Nat) (F:Fn),T.fns[i]?=some F->∃m,compSs m ⟨T,F.N,(Qa F.st).names,gl,bl,F.lc⟩ (Qc F.st)=some F.body
section
variable {P:Program}{w:World}{K:PySem.W.Frag}{mg:Str->Option Value}{base:Heap}{T:Tbl}{A:Adr}{gl:List (Str×G)}{bl:List Str}
theorem YY{α:List Addr}{us:List U}{vs:List V}{N:List Str}{n:Nat}(r:RUs A α us vs)(hn:N.length=n):RS A α (QhX us n) (L2.start N vs):=by
 unfold QhX L2.start;have l:=r.length
 refine⟨by simp [l,hn],fun i u e=>?_⟩
 by_cases hi:i<us.length
 ·rw [List.getElem?_append_left (by simpa using hi),List.getElem?_map]at e
  rw [List.getElem?_append_left (by simpa [<-l]using hi),List.getElem?_map]
  cases q:us[i]? with
  | none=>rw [q]at e;cases e
  | some x =>
   rw [q]at e;cases e;obtain⟨v,h1,h2⟩:=r.get q
   exact⟨v,by rw [h1];rfl,h2⟩
 ·rw [List.getElem?_append_right (by simpa using Nat.le_of_not_lt hi),List.getElem?_replicate]at e
  split at e<;>cases e
theorem YV{n:Nat}:∀f us hs r,Ql T n f us hs=some r->∃F,T.fns[f]?=some F/\us.length=F.np:=by
 intro f us hs r h
 cases n with
 | zero=>cases h
 | succ n =>
  simp only [Ql]at h;split at h
  ·cases h
  ·rename_i F e;split at h
   ·rename_i l;exact⟨F,e,l⟩
   ·cases h
noncomputable def XOk(P:Program)(w:World)(K:PySem.W.Frag)(mg:Str->Option Value)(base:Heap)(T:Tbl)(A:Adr)(r:Nat):Prop:=∀f F,T.fns[f]?=some F->∃fd,FnOk P w K mg base (CXw P w) r (A.f f) fd F.ps (spX T A K T.xf f)/\Binds K fd F.ps []/\PySem.W.keepIn K (.ref (A.f f))=true
theorem Qna(tp:Top T A K mg gl bl)(h:T.xf=fun _ _ _=>none):XOk P w K mg base T A 0:=fun f F hF=>by
 obtain⟨fd,fn,b,_⟩:=tp.txt.fn f F hF
 have no:∀vs H Q E,¬spX T A K T.xf f vs H Q E:=fun vs H Q E z=>by
  obtain⟨α,us,hs,u,hs',_,_,e,_⟩:=z;rw [h]at e;cases e
 exact⟨fd,⟨fun vs H Q E h=>absurd h (no vs H Q E),fun A outer s H args us vs Q E _ _ _ _ h=>absurd h (no vs H Q E)⟩,b,fn.kp⟩
theorem JG{rm:Nat}(tp:Top T A K mg gl bl)(tab:Jh P w T A K)(hb:YA T gl bl)(hX:XOk P w K mg base T A rm):∀n f F,T.fns[f]?=some F->∃fd,FnOk P w K mg base CX0 (rm+2*n) (A.f f) fd F.ps (spC T A K (Ql T n) f)/\Binds K fd F.ps []/\PySem.W.keepIn K (.ref (A.f f))=true/\FunD K F.name F.qual F.st (A.f f) fd
 | 0,f,F,hF=>by
  obtain⟨fd,fn,b,_⟩:=tp.txt.fn f F hF
  have no:∀vs H Q E,¬spC T A K (Ql T 0) f vs H Q E:=fun vs H Q E h=>by
   obtain⟨α,us,hs,u,hs',_,_,e,_⟩:=h;cases e
  exact⟨fd,⟨fun vs H Q E h=>absurd h (no vs H Q E),fun A outer s H args us vs Q E _ _ _ _ h=>absurd h (no vs H Q E)⟩,b,fn.kp,fn⟩
 | n+1,f,F,hF=>by
  obtain⟨fd,fn,b,sc,lp,lN⟩:=tp.txt.fn f F hF;obtain⟨m,hm⟩:=hb f F hF;refine⟨fd,?_,b,fn.kp,fn⟩;refine fn.ok (k:=rm+2*n+1) sc (fun vs H Q E h=>?_) (fun cdv A' outer s H vs Q E hr h=>?_)
  ·obtain⟨α,us,hs,u,hs',r,_,_,⟨F',h1,h2⟩,_⟩:=h;rw [hF]at h1;cases h1;rw [<-r.length,h2,lp]
  ·obtain⟨α,us,hs,u,hs',r,R,e,_,q⟩:=h;refine⟨TIS T A K (exs T (Ql T n) dd F.body),?_,?_⟩
   ·have gx:GX T A ⟨T,F.N,(Qa F.st).names,gl,bl,F.lc⟩ (QcJ CX0 P w K mg base F.N F.qual (Qa F.st) (A.f f) cdv A' outer s H E).nox :=
     ⟨rfl,rfl,sc.nd,rfl,rfl,sc.kind,rfl,tp.gfn,tp.gcl,tp.gco,tp.gtx,tp.blt,tp.txt,tab⟩
    have fc:Fc (QcJ CX0 P w K mg base F.N F.qual (Qa F.st) (A.f f) cdv A' outer s H E).nox T A (Ql T n) (rm+2*n):=⟨fun f' F' h'=>by
     obtain⟨fd',G,b',kp,_⟩:=JG tp tab hb hX n f' F' h'
     exact⟨fd',G,b',kp⟩,YV,fun i D F' hD h'=>by
     obtain⟨fd',G,_,kp,fn'⟩:=JG tp tab hb hX n i F' h';obtain⟨fd2,x,q,st,fn2,dk,hp⟩:=tp.txt.df i D hD;have e:=FunD.same fn2 fn';subst e;rw [(hp F' h').1]at G
     exact⟨fd2,G,kp,dk⟩,fun f' F' h'=>by
     obtain⟨fd',G,b',kp⟩:=hX f' F' h'
     exact⟨fd',G.mono (Nat.le_add_right _ _),b',kp⟩⟩
    exact(QjQ ⟨rfl,rfl,rfl⟩ gx (fun _=>.inl rfl) fc hr m).ss dd (Qc F.st) F.body hm
   ·simp only [Ql,hF]at e;split at e
    case isFalse=>cases e
    unfold fin at e;split at e
    ·rename_i u' ρ' h1 e1;cases e;exact TIS.run (YY r lN) R e1 fun α1 σ1 H1 E1 R1 rs1 v rv=>q α1 v H1 E1 R1 rv
    ·rename_i ρ' h1 e1;cases e;exact TIS.run (YY r lN) R e1 fun α1 σ1 H1 E1 R1 rs1=>q α1 .non H1 E1 R1 rfl
    ·cases e
end
end Iv
namespace Iv
open PySem PySem.Spec PyProof.Rows L2
inductive AllI{α:Type}(P:Nat->α->Prop):Nat->List α->Prop where
 | nil {n:Nat}:AllI P n []
 | cons {n:Nat} {a:α} {r:List α}:P n a->AllI P (n+1) r->AllI P n (a::r)
theorem AllI.get{α:Type}{P:Nat->α->Prop}:∀{n:Nat} {l:List α},AllI P n l->∀i a,l[i]?=some a->P (n+i) a
 | _,_,.nil,i,a,e=>by simp at e
 | n,_,.cons h t,0,a,e=>by
  simp at e;subst e;exact h
 | n,_,.cons h t,i+1,a,e=>by
  have:=AllI.get t i a (by simpa using e)
  rw [Nat.add_assoc,Nat.add_comm 1 i]at this;exact this
theorem AllI.mem{α:Type}{P:α->Prop}{n:Nat}{l:List α}(h:AllI (fun _ a=>P a) n l){a:α}(m:a∈l):P a:=by
 obtain⟨i,e⟩:=List.getElem?_of_mem m;exact AllI.get h i a e
theorem AllI.look{κ β:Type}[BEq κ][LawfulBEq κ]{P:κ->β->Prop}{n:Nat}{l:List (κ×β)}(h:AllI (fun _ p=>P p.1 p.2) n l){k:κ}{b:β}(e:l.lookup k=some b):P k b:=AllI.mem (P:=fun p=>P p.1 p.2) h (ZV e)
noncomputable def gvP(A:Adr)(mg:Str->Option Value)(x:Str):G->Prop
 | .fn i=>mg x=some (.ref (A.f i))
 | .cls i=>mg x=some (.ref (A.c i))
 | .con k=>mg x=some (.ref (A.k k))
 | .txt t=>∃k,mg x=some (.str ⟨t.toArray⟩ k)
section
variable {P:Program}{w:World}{K:PySem.W.Frag}{mg:Str->Option Value}{base:Heap}{T:Tbl}{A:Adr}{gl:List (Str×G)}{bl:List Str}
noncomputable def Ql7(A:Adr)(K:PySem.W.Frag)(k:Nat)(c:Co):Prop:=match c with
 | Co.tup xs=>∃vs,RUs A [] xs vs/\∀H,SqT K H (A.k k) vs
 | Co.lst xs=>∃vs,RUs A [] xs vs/\∀H,SqL K H (A.k k) vs
 | Co.tab _=>True
theorem Qhr(fns:AllI (fun i (F:Fn)=>∃fd,FunD K F.name F.qual F.st (A.f i) fd/\Binds K fd F.ps []/\FnScope F.N F.ps (Qa F.st)/\F.ps.length=F.np/\F.N.length=F.nN) 0 T.fns)
  (cls:AllI (fun i C=>ClOk T A K i C) 0 T.cls)
  (fm:(T.fns'.all fun x=>!(T.mns.contains x))=true) (fd:T.fns'.Nodup)
  (isi:AllI (fun _ p=>PySem.W.kitOne K (tyW A p.1.1) (tyW A p.1.2)=some p.2) 0 T.isi)
  (co:AllI (Ql7 A K) 0 T.cons)
  (dfs:AllI (fun _ (p:Nat×Df)=>∃fd x q st,FunD K x q st (A.f p.1) fd/\Qjz A K fd p.2/\∀F,T.fns[p.1]?=some F->F.ps=p.2.ps/\F.np=p.2.np) 0 T.dfl)
  (g:AllI (fun _ (p:Str×G)=>gvP A mg p.1 p.2) 0 gl)
  (b:AllI (fun _ x=>mg x=none) 0 bl)
  (er : AllI (fun _ c => ErrCls K (A.c c) /\ PySem.W.excIn K (A.c c) Qbv "ValueError.__new__" = true) 0 T.ers)
  (es:AllI (fun _ (p:Nat×Nat)=>PySem.W.exmOne K (.ref (A.c p.1)) (.ref (A.c p.2))=some true) 0 T.esb):Top T A K mg gl bl where
 txt:={
  fn:=fun i F e=>by simpa using fns.get i F e
  df:=fun i D e=>AllI.look (P:=fun i (D:Df)=>∃fd x q st,FunD K x q st (A.f i) fd/\Qjz A K fd D/\∀F,T.fns[i]?=some F->F.ps=D.ps/\F.np=D.np) dfs e
  cl:=fun i C e=>by simpa using cls.get i C e
  fm:=fun x m n=>by
   have:=List.all_eq_true.mp fm x m;simp at this;exact this n
  fd:=fd
  isi:=fun k t b e=>AllI.look (P:=fun(q:Ty×Ty) b=>PySem.W.kitOne K (tyW A q.1) (tyW A q.2)=some b) isi e
  co:=fun k c e=>by
   have:=co.get k c e;simp only [Nat.zero_add]at this;exact this
  er:=fun c h=>AllI.mem er (by simpa using h)
  es:=fun c c' h=>AllI.mem (P:=fun(p:Nat×Nat)=>PySem.W.exmOne K (.ref (A.c p.1)) (.ref (A.c p.2))=some true) es (a:=(c,c')) (by simpa using h) }
 gfn:=fun x i e=>AllI.look (P:=fun x (q:G)=>gvP A mg x q) g e
 gcl:=fun x i e=>AllI.look (P:=fun x (q:G)=>gvP A mg x q) g e
 gco:=fun x i e=>AllI.look (P:=fun x (q:G)=>gvP A mg x q) g e
 gtx:=fun x i e=>AllI.look (P:=fun x (q:G)=>gvP A mg x q) g e
 blt:=fun x h=>by
  have:bl.contains x=true:=by cases q:bl.contains x with | true=>rfl | false=>exact absurd q h
  exact AllI.mem (P:=fun x=>mg x=none) b (by simpa using this)
theorem YE{i:Nat}{C:Cl}(c:Cls K (A.c i))(nf:AllI (fun _ x=>NoAttr K (A.c i) x) 0 T.fns')
  (me:AllI (fun _ (p:Nat×Nat)=>∃x,T.mns[p.1]?=some x/\Meth K (A.c i) x (A.f p.2)) 0 C.meths)
  (mks:PySem.W.makesIn K (A.c i)=true) (kp:PySem.W.keepIn K (.ref (A.c i))=true)
  (ini:match C.init with
  | some f => PySem.W.findIn K (.ref (A.c i)) "__init__" = some (some (.ref (A.f f))) /\ PySem.W.isFn K (.ref (A.f f)) = true
  | none=>PySem.W.findIn K (.ref (A.c i)) "__init__"=some (some (.builtin "object.__init__")))
  (ha:PySem.W.findIn K (.ref (A.c i)) "__class__"=some (some (.builtin "object.__class__")))
  (hn:PySem.W.specialIn K (.builtin "object.__class__") "__get__"=some (some (.builtin "getset_descriptor.__get__"))) (htk:PySem.W.takesIn K (.builtin "object.__class__")=some true)
  (hm:PySem.W.mroIn K (A.c i) (.type "object")=some true):ClOk T A K i C where
 cls:=c
 nf:=fun x m=>AllI.mem nf m
 me:=fun m f e=>AllI.look (P:=fun m f=>∃x,T.mns[m]?=some x/\Meth K (A.c i) x (A.f f)) me e
 mks:=mks
 kp:=kp
 ini:=ini
 ty:=fun H a dx fs e=>.ins e c ha hn htk hm
theorem YF{k:Addr}{o:Obj}{es:Array DictEntry}{ep:Nat}{vs:List (Key×Value)}(hk:K.lookup k=some o)(ex:o.ExactDict)(hd:o.data=.dict es ep)
  (ks:AllI (fun _ (e:DictEntry)=>∃q:Key,Y6 q e.key=true/\e.hash=Ji w q) 0 es.toList) (pr:Pairs (Qs P w) es.toList vs) (nd:(vs.map (·.1)).Nodup):
  ∀h:Heap,K.In h->h.DictOf (Qs P w) k vs:=fun h X=>⟨o,es,ep,X k o hk,ex,hd,fun e m=>AllI.mem (P:=fun(e:DictEntry)=>∃q:Key,Y6 q e.key=true/\e.hash=Ji w q) ks (by simpa using m),pr,nd⟩
theorem JQ(h:AllI (fun _ (F:Fn)=>compSs 100 ⟨T,F.N,(Qa F.st).names,gl,bl,F.lc⟩ (Qc F.st)=some F.body) 0 T.fns):YA T gl bl:=fun i F e=>⟨100,h.get i F e⟩
theorem tv{x:Str}{y:List Nat}{t:Tok}(h:x.cps.toList=y):∃v,RU A [] (.str y) v/\RelV v (.str x t):=by
 subst h;exact⟨.str x,rfl,⟨t,rfl⟩⟩
theorem tvi{i:Int}{t:Tok}:∃v,RU A [] (.int i 0) v/\RelV v (.int i t):=⟨.int i,⟨i,rfl,Cg.refl i 0⟩,⟨t,rfl⟩⟩
theorem QcO {k : Nat} {xs : List U} {o : Obj} {its : Array Value} {n : Nat} (hk : K.lookup (A.k k) = some o) (hc : o.cls = .type "tuple") (hd : o.data = .seq its n) (hl : its.toList = its.toList) (hz : its.size <= sizeLine) (r : Paired (fun u v => ∃ z, RU A [] u z /\ RelV z v) xs its.toList) : Ql7 A K k (.tup xs) := by
 have all:∀{xs:List U} {l:List Value},Paired (fun u v=>∃z,RU A [] u z/\RelV z v) xs l->∃vs,RUs A [] xs vs/\Vals vs l:=by
  intro xs l h
  induction h with
  | nil=>exact⟨[],.nil,.nil⟩
  | cons a t ih =>
   obtain⟨z,r1,r2⟩:=a;obtain⟨vs,h1,h2⟩:=ih;exact⟨z::vs,.cons r1 h1,.cons r2 h2⟩
 obtain⟨vs,h1,h2⟩:=all r;exact⟨vs,h1,fun H=>.inr ⟨o,its,n,hk,hc,hd,hz,h2⟩⟩
noncomputable def QdX(K:PySem.W.Frag):Sp:=fun vs H Q _=>∃(a:Addr) (ns:List Int),vs=[.ref a]/\SqL K H a (ns.map V.int)/\Qjy H/\ns.length<=63/\∀H',Q (.bl true) H'
noncomputable def Abs:U->Int->Prop:=fun u i=>∃r m,u=.int r m/\Cg i r m
theorem Abs.rus:∀{s:List U} {ns:List Int},Paired Abs s ns->RUs A [] s (ns.map V.int)
 | _,_,.nil=>.nil
 | _,_,.cons (b:=i) ⟨r,m,e,c⟩ t=>.cons (by subst e;exact⟨i,rfl,c⟩) (Abs.rus t)
theorem Qf{x qual:Str}{st:Stmt}{f:Addr}{oc:Value}{od an:Option Addr}{osl:Array (Option Value)}{dV kV doc pm cdv ct:Value}(l:K.lookup f=some ⟨oc,od,.func (PySem.W.fnOf x qual (Qd st) (Qc st) (Qa st) dV kV doc pm an cdv ct),osl⟩)
  (c:PySem.W.codeIn K cdv qual=true) (k:PySem.W.keepIn K (.ref f)=true):FunD K x qual st f (PySem.W.fnOf x qual (Qd st) (Qc st) (Qa st) dV kV doc pm an cdv ct):=⟨⟨oc,od,dV,kV,doc,pm,an,cdv,ct,osl,rfl,l,c⟩,k⟩
theorem Qj{x qual:Str}{st:Stmt}{f:Addr}{fd:FuncData}{ps:List Str}(F:FunD K x qual st f fd)(h:∀us:List Value,us.length=ps.length->bindArgs fd ⟨us,[]⟩=pure (ps.zip us)):Binds K fd ps []:=.all h
theorem QiM{tb:List U->Tbl}{adr:Addr->Adr}{L n r:Nat}{F:Fn}{x:Str}{fd:FuncData}(hF:∀s,(tb s).fns[L]?=some F)(hs:∀s,(tb s).scr=s)(hps:F.ps=[x])(hnp:F.np=1)
  (hA:∀a,(adr a).s=a) (hf:∀a,(adr a).f=(adr 0).f)
  (tp:∀s a,Top (tb s) (adr a) K mg gl bl) (tab:∀s a,Jh P w (tb s) (adr a) K) (hb:∀s,YA (tb s) gl bl) (hX:∀s a,XOk P w K mg base (tb s) (adr a) r)
  (hfun:FunD K F.name F.qual F.st ((adr 0).f L) fd)
  (comp:∀ns:List Int,ns.length<=63->∃s hs',Paired Abs s ns/\Ql (tb s) n L [.scr] []=some (.bl true,hs')):
  FnOk P w K mg base CX0 (r+2*n) ((adr 0).f L) fd [x] (QdX K):=by
 refine⟨fun vs H Q E ⟨a,ns,h,_⟩=>by rw [h];rfl,fun A0 outer s H args us vs Q E hr e0 hbd rel ⟨a,ns,h,hS,hO,hl,q⟩=>?_⟩
 obtain⟨sc,hs',pr,hc⟩:=comp ns hl;obtain⟨fd',G,_,_,hfun'⟩:=JG (base:=base) (tp sc a) (tab sc a) (hb sc) (hX sc a) n L F (hF sc);rw [hf a]at G hfun';have ef:=FunD.same hfun hfun';subst ef;rw [hps]at G;refine G.run A0 outer s H args us vs Q E hr e0 hbd rel ?_;subst h
 refine⟨[],[.scr],[],.bl true,hs',.cons (show V.ref a=V.ref (adr a).s by rw [hA]) .nil,⟨⟨rfl,.nil,fun n b o e _=>by simp at e⟩,ns.map V.int,by rw [hs];exact Abs.rus pr,?_⟩,hc,⟨F,hF sc,hnp.symm⟩,fun α' v H' _ _ rv=>?_⟩
 ·rw [hA]
  rcases hS with(h | ⟨o,h⟩) | h
  ·rcases hO a with z | ⟨o,xs,z⟩
   ·rw [h]at z;cases z
   ·rw [h]at z;cases z
  ·exact .inl ⟨o,h⟩
  ·exact .inr h
 ·have:v=.bl true:=rv;subst this;exact q H'
end
end Iv
namespace Iv
open PySem PySem.W PySem.Spec PyProof.Rows
noncomputable def topRunT(tb:String->Option Builtin)(p:Program)(w:World)(n₀:Nat)(ann:Option Value):Nat->SharedT->Thread->Option SharedT
 | 0,_,_=>none
 | n+1,s,t=>match through t with
  | true=>some s
  | false=>match stepOk n₀ ann t with
   | false=>none
   | true=>match stepT (denote tb) p w s t with
    | some (s',t')=>topRunT tb p w n₀ ann n s' t'
    | none=>none
theorem Jn{tb:String->Option Builtin}{p:Program}{w:World}{n₀:Nat}{ann:Option Value}:∀{n:Nat} {s s':SharedT} {t:Thread},topRunT tb p w n₀ ann n s t=some s'->topRun tb p w n₀ ann n s.abs t=some s'.abs
 | 0,_,_,_,h=>by cases h
 | n+1,s,s',t,h=>by
  unfold topRunT at h;unfold topRun
  cases he:through t with
  | true=>rw [he]at h;cases h;rfl
  | false =>
   rw [he]at h
   cases hk:stepOk n₀ ann t with
   | false=>rw [hk]at h;cases h
   | true =>
    rw [hk]at h
    cases hs:stepT (denote tb) p w s t with
    | none=>rw [hs]at h;cases h
    | some r=>obtain⟨s₂,t₂⟩:=r;rw [hs]at h;rw [stepT_spec hs];exact Jn h
structure BootT where
 t:Params->BT
 n:Nat
 life:Life
noncomputable def BootT.at(B:BootT)(w:World)(os:OsState):SharedT:=⟨B.t w.params,B.n,B.life,Array.mk [],boot_drawn,boot_toks,os⟩
noncomputable abbrev RunT(p q:Program)(loose:List Str)(Xt:Shared->Bool){α:Type}(Yf:Shared->α)(Ya:World->α)(N:Nat)(g0:Bool)(B:BootT)(m₀:Nat)(ann:Option Value)(w:World):Prop :=
 ∀os:OsState,(topRunT treeTable p w m₀ ann N (B.at w os) (topStub p)).map (fun s=>((staticsOk (importedModules p.main.body) (boot_heap w.params) s.abs.heap&&namesBound p s.abs.heap&&gensDone s.abs&&laidKept (boot_heap w.params) s.abs.heap),openSeen q loose (importedModules p.main.body) Xt g0 s.abs,Yf s.abs))=some (true,openGood q loose,Ya w)
theorem QbN{σ α β:Type}{x:Option σ}{f:σ->α}{g:σ->β}{a:α}{b:β}(h1:x.map f=some a)(h2:x.map g=some b):x.map (fun s=>(f s,g s))=some (a,b):=by
 cases x with
 | none=>cases h1
 | some s=>cases h1;cases h2;rfl
section
variable (p q:Program)(loose:List Str)(Xt:Shared->Bool)(N:Nat)(g0:Bool)(B:BootT)(m₀:Nat)(ann:Option Value)
noncomputable abbrev Qlu(w:World)(os:OsState):Option SharedT:=topRunT treeTable p w m₀ ann N (B.at w os) (topStub p)
noncomputable abbrev PC(as:List Addr)(bs:List (Option Obj))(w:World):Prop:=∀os:OsState,(Qlu p N B m₀ ann w os).map (fun s=>as.map fun a=>s.abs.heap.get? a)=some bs
variable {p q loose Xt N g0 B m₀ ann}
noncomputable abbrev PL(p q:Program)(loose:List Str)(Xt:Shared->Bool)(N:Nat)(g0:Bool)(B:BootT)(m₀:Nat)(ann:Option Value)(w:World):Prop:=∀os:OsState,(Qlu p N B m₀ ann w os).map (fun s=>((staticsOk (importedModules p.main.body) (boot_heap w.params) s.abs.heap&&namesBound p s.abs.heap&&gensDone s.abs&&laidKept (boot_heap w.params) s.abs.heap),openSeen q loose (importedModules p.main.body) Xt g0 s.abs))=some (true,openGood q loose)
theorem QhV{σ α β γ:Type}{x:Option σ}{f:σ->α}{g:σ->β}{h:σ->γ}{a:α}{b:β}{c:γ}(h1:x.map (fun s=>(f s,g s))=some (a,b))(h2:x.map h=some c):x.map (fun s=>(f s,g s,h s))=some (a,b,c):=by
 cases x with
 | none=>cases h1
 | some s =>
  simp only [Option.map_some,Option.some.injEq,Prod.mk.injEq]at h1 h2 ⊢;exact⟨h1.1,h1.2,h2⟩
end
noncomputable abbrev PX(p:Program)(N:Nat)(B:BootT)(m₀:Nat)(ann:Option Value){α:Type}(f:Shared->α)(a:α)(w:World):Prop:=∀os:OsState,(Qlu p N B m₀ ann w os).map (fun s=>f s.abs)=some a
noncomputable abbrev f1(q:Program)(s:Shared):=seen ((recsOf q).map (·.name)) (ownsOf q) [] { s with gens:=#[] }
noncomputable abbrev f2(s:Shared):=s.heap.bltView
noncomputable abbrev f3(q:Program)(loose:List Str)(s:Shared):Bool:=s.heap.keysOk (looseW q loose) ((recsOf q).map (·.name)) ((litsOf q).map (·.1)) ((clssOf q (looseW q loose)).map (·.name))
noncomputable abbrev f4(q:Program)(mods:List Str)(Xt:Shared->Bool)(g0:Bool)(s:Shared):Bool:=s.heap.accountedOkI mods&&s.heap.isNs mainGlobals&&s.heap.isNs builtinsNs&&tablesOk q s.heap&&Xt s&&(if g0 then s.gens.size==0 else !leftWithCleanup s.gens)
noncomputable abbrev f5(q:Program)(s:Shared):Bool:=tabsOk q s
noncomputable abbrev f6(q:Program)(loose:List Str)(s:Shared):=(pinSeenD q (drecsOf q) s,plainSeenE q (looseW q loose) s,plainSeenD q loose s)
noncomputable abbrev f7(q:Program)(loose:List Str)(s:Shared):=(wideSeen q s,clsSeenW q loose s)
theorem Qd4{q:Program}{loose mods:List Str}{Xt:Shared->Bool}{g0:Bool}{x:Option SharedT}(y1:x.map (fun s=>f1 q s.abs)=some (expectedOf q))(y2:x.map (fun s=>f2 s.abs)=some bltViewBooted)(y3:x.map (fun s=>f3 q loose s.abs)=some true)
  (y4:x.map (fun s=>f4 q mods Xt g0 s.abs)=some true) (y5:x.map (fun s=>f5 q s.abs)=some true) (y6:x.map (fun s=>f6 q loose s.abs)=some (pinGoodD (drecsOf q),plainGoodE q (looseW q loose),plainGoodD q loose))
  (y7:x.map (fun s=>f7 q loose s.abs)=some (wideGood q,clsGoodW q loose)):x.map (fun s=>openSeen q loose mods Xt g0 s.abs)=some (openGood q loose):=by
 cases x with
 | none=>cases y1
 | some s =>
  have z1:=Option.some.inj y1;have z2:=Option.some.inj y2;have z3:=Option.some.inj y3;have z4:=Option.some.inj y4;have z5:=Option.some.inj y5;have z6:=Prod.ext_iff.mp (Option.some.inj y6);have z6b:=Prod.ext_iff.mp z6.2;have z7:=Prod.ext_iff.mp (Option.some.inj y7);simp only [f4,Bool.and_eq_true]at z4;obtain⟨⟨⟨⟨⟨w1,w2⟩,w3⟩,w4⟩,w5⟩,w6⟩:=z4;have z3':s.abs.heap.keysOk (looseW q loose) ((recsOf q).map (·.name)) ((litsOf q).map (·.1)) ((clssOf q (looseW q loose)).map (·.name))=true:=z3;show some (openSeen q loose mods Xt g0 s.abs)=some (openGood q loose);unfold openSeen openGood;refine congrArg some (Prod.ext z1 (Prod.ext z2 (Prod.ext ?_ (Prod.ext z5 (Prod.ext z6.1 (Prod.ext z6b.1 (Prod.ext z6b.2 (Prod.ext z7.1 z7.2))))))));show(s.abs.heap.keysOk (looseW q loose) ((recsOf q).map (·.name)) ((litsOf q).map (·.1)) ((clssOf q (looseW q loose)).map (·.name))&&s.abs.heap.accountedOkI mods&&s.abs.heap.isNs mainGlobals&&s.abs.heap.isNs builtinsNs&&tablesOk q s.abs.heap&&Xt s.abs&&(if g0 then s.abs.gens.size==0 else !leftWithCleanup s.abs.gens))=true;rw [z3',w1,w2,w3,w4,w5];exact w6
theorem QbL{σ α β:Type}{x:Option σ}{f:σ->α}{g:σ->β}{a:α}{b:β}(h:x.map (fun s=>(f s,g s))=some (a,b)):x.map f=some a:=by
 cases x with
 | none=>cases h
 | some s=>exact congrArg some (Prod.ext_iff.mp (Option.some.inj h)).1
theorem JZ{σ α β:Type}{x:Option σ}{f:σ->α}{g:σ->β}{a:α}{b:β}(h:x.map (fun s=>(f s,g s))=some (a,b)):x.map g=some b:=by
 cases x with
 | none=>cases h
 | some s=>exact congrArg some (Prod.ext_iff.mp (Option.some.inj h)).2
noncomputable abbrev fA(p:Program)(w:World)(s:Shared):Bool:=staticsOk (importedModules p.main.body) (boot_heap w.params) s.heap&&namesBound p s.heap&&gensDone s&&laidKept (boot_heap w.params) s.heap
noncomputable abbrev Lk1(p q:Program)(N:Nat)(B:BootT)(m₀:Nat)(ann:Option Value)(w:World):Prop:=PX p N B m₀ ann (fun s=>(fA p w s,f1 q s,f2 s)) (true,expectedOf q,bltViewBooted) w
noncomputable abbrev Lk2(p q:Program)(loose:List Str)(Xt:Shared->Bool)(N:Nat)(g0:Bool)(B:BootT)(m₀:Nat)(ann:Option Value)(w:World):Prop:=PX p N B m₀ ann (fun s=>(f3 q loose s,f4 q (importedModules p.main.body) Xt g0 s,f5 q s,f6 q loose s,f7 q loose s)) (true,true,true,(pinGoodD (drecsOf q),plainGoodE q (looseW q loose),plainGoodD q loose),(wideGood q,clsGoodW q loose)) w
noncomputable abbrev Lk3(p q:Program)(loose:List Str)(N:Nat)(B:BootT)(m₀:Nat)(ann:Option Value)(w:World):Prop:=PX p N B m₀ ann (fun s=>(f3 q loose s,f5 q s)) (true,true) w
noncomputable abbrev Lk5(p q:Program)(Xt:Shared->Bool)(N:Nat)(g0:Bool)(B:BootT)(m₀:Nat)(ann:Option Value)(w:World):Prop:=PX p N B m₀ ann (f4 q (importedModules p.main.body) Xt g0) true w
noncomputable abbrev Lk4(p q:Program)(loose:List Str)(N:Nat)(B:BootT)(m₀:Nat)(ann:Option Value)(w:World):Prop:=PX p N B m₀ ann (fun s=>(f6 q loose s,f7 q loose s)) ((pinGoodD (drecsOf q),plainGoodE q (looseW q loose),plainGoodD q loose),(wideGood q,clsGoodW q loose)) w
noncomputable def segRunT(tb:String->Option Builtin)(p:Program)(w:World)(n₀:Nat)(ann:Option Value)(b:Nat):Nat->SharedT->Thread->Option (Flow×SharedT×Code×Pos)
 | 0,_,_=>none
 | n+1,s,t=>match endAt b t with
  | some f=>some (f,s,t.code,t.pos)
  | none=>match stepOk n₀ ann t with
   | false=>none
   | true=>match stepT (denote tb) p w s t with
    | some (s',t')=>segRunT tb p w n₀ ann b n s' t'
    | none=>none
theorem Ye{tb:String->Option Builtin}{p:Program}{w:World}{n₀:Nat}{ann:Option Value}{b:Nat}:∀{n:Nat} {s s':SharedT} {t:Thread} {f:Flow} {c:Code} {q:Pos},segRunT tb p w n₀ ann b n s t=some (f,s',c,q)->segRun tb p w n₀ ann b n s.abs t=some (f,s'.abs,c,q)
 | 0,_,_,_,_,_,_,h=>by cases h
 | n+1,s,s',t,f,c,q,h=>by
  unfold segRunT at h;unfold segRun
  cases he:endAt b t with
  | some g=>rw [he]at h;cases h;rfl
  | none =>
   rw [he]at h
   cases hk:stepOk n₀ ann t with
   | false=>rw [hk]at h;cases h
   | true =>
    rw [hk]at h
    cases hs:stepT (denote tb) p w s t with
    | none=>rw [hs]at h;cases h
    | some r=>obtain⟨s₂,t₂⟩:=r;rw [hs]at h;rw [stepT_spec hs];exact Ye h
noncomputable def topGoT(tb:String->Option Builtin)(p:Program)(w:World)(n₀:Nat)(ann:Option Value):Nat->SharedT->Thread->Option (SharedT×Thread)
 | 0,s,t=>some (s,t)
 | n+1,s,t=>match through t with
  | true=>none
  | false=>match stepOk n₀ ann t with
   | false=>none
   | true=>match stepT (denote tb) p w s t with
    | some (s',t')=>topGoT tb p w n₀ ann n s' t'
    | none=>none
theorem QaB{tb:String->Option Builtin}{p:Program}{w:World}{n₀:Nat}{ann:Option Value}:∀{n:Nat} {s s':SharedT} {t t':Thread},topGoT tb p w n₀ ann n s t=some (s',t')->topGo tb p w n₀ ann n s.abs t=some (s'.abs,t')
 | 0,_,_,_,_,h=>by cases h;rfl
 | n+1,s,s',t,t',h=>by
  unfold topGoT at h;unfold topGo
  cases he:through t with
  | true=>rw [he]at h;cases h
  | false =>
   rw [he]at h
   cases hk:stepOk n₀ ann t with
   | false=>rw [hk]at h;cases h
   | true =>
    rw [hk]at h
    cases hs:stepT (denote tb) p w s t with
    | none=>rw [hs]at h;cases h
    | some r=>obtain⟨s₂,t₂⟩:=r;rw [hs]at h;rw [stepT_spec hs];exact QaB h
noncomputable def Gl2(p:Program)(w:World)(m₀:Nat)(ann:Option Value){α:Type}(F:Shared->α)(a:α)(N:Nat)(s:SharedT)(t:Thread):Prop:=∃r:SharedT,topRun treeTable p w m₀ ann N s.abs t=some r.abs/\F r.abs=a
section
variable {p:Program}{w:World}{m₀:Nat}{ann:Option Value}{α:Type}{F:Shared->α}{a:α}{env:Env}{q:Pos}
theorem ch_fin{N:Nat}{s:SharedT}{t:Thread}(h:(topRunT treeTable p w m₀ ann N s t).map (fun s=>F s.abs)=some a):Gl2 p w m₀ ann F a N s t:=by
 obtain⟨r,e,l⟩:=Option.map_eq_some_iff.mp h;exact⟨r,Jn e,l⟩
theorem Qi6{n N:Nat}{s s':SharedT}{l rest:List Stmt}{c:Code}{pos p':Pos}(h:segRunT treeTable p w m₀ ann 1 n s (piecesOf l env c pos [topFrame q])=some (.next,s',c,p'))
  (k:Gl2 p w m₀ ann F a N s' (restOf rest env c p' [topFrame q])):Gl2 p w m₀ ann F a (n+N) s (restOf (l++rest) env c pos [topFrame q]):=by
 obtain⟨r,e,l⟩:=k;exact⟨r,piece_app (Ye h) e,l⟩
theorem ch_cut(m:Nat){n N:Nat}{s s':SharedT}{b:List Stmt}{c:Code}{pos p':Pos}(h:segRunT treeTable p w m₀ ann 1 n s (piecesOf (b.take m) env c pos [topFrame q])=some (.next,s',c,p'))
  (k:Gl2 p w m₀ ann F a N s' (restOf (b.drop m) env c p' [topFrame q])):Gl2 p w m₀ ann F a (n+N) s (restOf b env c pos [topFrame q]):=by
 have z:=Qi6 h k;rwa [List.take_append_drop]at z
theorem ch_blk{n N:Nat}{s s':SharedT}{b:List Stmt}{c:Code}{pos p':Pos}(h:segRunT treeTable p w m₀ ann 1 n s (blockOf b env c pos [topFrame q])=some (.next,s',c,p'))
  (k:Gl2 p w m₀ ann F a N s' (restOf b env c p' [topFrame q])):Gl2 p w m₀ ann F a (n+N) s ⟨denote treeTable (.body b env),c,pos,[topFrame q]⟩:=by
 obtain⟨r,e,l⟩:=k;exact⟨r,piece_block (Ye h) e,l⟩
theorem ch_pre{n N:Nat}{s s':SharedT}{t t':Thread}(h:topGoT treeTable p w m₀ ann n s t=some (s',t'))(k:Gl2 p w m₀ ann F a N s' t'):Gl2 p w m₀ ann F a (n+N) s t:=by
 obtain⟨r,e,l⟩:=k;exact⟨r,go_top (QaB h) e,l⟩
end
noncomputable abbrev seenAll(p q:Program)(loose:List Str)(Xt:Shared->Bool){α:Type}(Yf:Shared->α)(g0:Bool)(w:World)(s:Shared):=((staticsOk (importedModules p.main.body) (boot_heap w.params) s.heap&&namesBound p s.heap&&gensDone s&&laidKept (boot_heap w.params) s.heap),openSeen q loose (importedModules p.main.body) Xt g0 s,Yf s)
theorem left_pieces{p q:Program}{loose:List Str}{Xt:Shared->Bool}{α:Type}{Yf:Shared->α}{Ya:World->α}{N:Nat}{g0:Bool}{B:BootT}{m₀:Nat}{ann:Option Value}
  (op:opening p=plainProg p.main.scope.names) (hN:Nat.ble 600 N=true) (fm:∀s,fenceModules? p s=some s)
  (hB:∀w:World,absHeap (B.t w.params) B.n B.life=boot_heap w.params)
  (size:∀w:World,((boot_heap w.params).isNs mainGlobals,(boot_heap w.params).objs.size,(boot_heap w.params).nsMap mainGlobals "__annotations__")=(true,m₀,ann))
  (run:∀w os,Gl2 p w m₀ ann (seenAll p q loose Xt Yf g0 w) (true,openGood q loose,Ya w) N (B.at w os) (topStub p)):LeftO p q loose Xt Yf Ya N g0:=fun w=>by
 obtain⟨⟨h,gs,d,k,os⟩,e,e'⟩:=Option.map_eq_some_iff.mp (boot_open (N:=N) op hN fm w)
 obtain⟨rfl,rfl,rfl,rfl⟩:h=boot_heap w.params/\gs=Array.mk []/\d=boot_drawn/\k=boot_toks:=by simpa using e'
 obtain⟨z1,z2,z3⟩:_/\_/\_:=by simpa only [Prod.mk.injEq]using size w
 obtain⟨s1,r,l⟩:=run w os
 obtain⟨l1,l2,l3⟩:_/\_/\_:=by simpa only [Prod.mk.injEq]using l
 have ab:(B.at w os).abs=⟨boot_heap w.params,Array.mk [],boot_drawn,boot_toks,os⟩:=by
  unfold BootT.at SharedT.abs;rw [hB w]
 rw [ab]at r
 have t:topFrom treeTable p w N ⟨boot_heap w.params,Array.mk [],boot_drawn,boot_toks,os⟩=some s1.abs:=by
  unfold topFrom;dsimp only;rw [z1,z2,z3,r]
  show(match staticsOk (importedModules p.main.body) (boot_heap w.params) s1.abs.heap&&namesBound p s1.abs.heap&&gensDone s1.abs&&laidKept (boot_heap w.params) s1.abs.heap with | true=>_ | false=>_)=_
  rw [l1]
 unfold openEnds;rw [e];show(topFrom treeTable p w N _).map _=_;rw [t];exact congrArg some (Prod.ext l2 l3)
noncomputable abbrev vF(p q:Program)(w:World)(s:SharedT):=(fA p w s.abs,f1 q s.abs,f2 s.abs)
noncomputable abbrev gF(q:Program):=(true,expectedOf q,bltViewBooted)
noncomputable abbrev vK(p q:Program)(loose:List Str)(Xt:Shared->Bool)(g0:Bool)(s:SharedT):=(f3 q loose s.abs,f4 q (importedModules p.main.body) Xt g0 s.abs,f5 q s.abs)
noncomputable abbrev vL(q:Program)(loose:List Str)(s:SharedT):=(f6 q loose s.abs,f7 q loose s.abs)
noncomputable abbrev gL(q:Program)(loose:List Str):=((pinGoodD (drecsOf q),plainGoodE q (looseW q loose),plainGoodD q loose),(wideGood q,clsGoodW q loose))
theorem looks3{p q:Program}{loose:List Str}{Xt:Shared->Bool}{α:Type}{Yf:Shared->α}{Y:α}{g0:Bool}{w:World}{x:Option SharedT}(l1:x.map (vF p q w)=some (gF q))
  (l2:x.map (vK p q loose Xt g0)=some (true,true,true)) (l4:x.map (vL q loose)=some (gL q loose))
  (c:x.map (fun s=>Yf s.abs)=some Y):x.map (fun s=>seenAll p q loose Xt Yf g0 w s.abs)=some (true,openGood q loose,Y):=
 QbN (QbL l1) (QbN (Qd4 (QbL (JZ l1)) (JZ (JZ l1)) (QbL l2) (QbL (JZ l2)) (JZ (JZ l2)) (QbL l4) (JZ l4)) c)
end Iv
namespace Iv
open PySem
section
variable {T:Tbl}{cf:Cf}{d:Nat}{ρ:Rho}{hs h1:Hs}{α β:Type}
theorem QU{a:α}{f:α->Hs->Option β}:bd (some (a,h1)) f=f a h1:=rfl
theorem QS:exs T cf (d+1) [] ρ hs=some (.next,ρ,hs):=by rw [exs]
theorem Qo{s:S}{r:List S}:exs T cf (d+1) (s::r) ρ hs=(match ex T cf d s ρ hs with
   | some (.next,ρ1,h1)=>exs T cf d r ρ1 h1
   | x=>x):=by rw [exs]<;>rfl
theorem QL{e:E}:ex T cf (d+1) (.expr e) ρ hs=bd (ev T cf d e ρ hs) fun _ h1=>some (.next,ρ,h1):=by rw [ex]
theorem QQ{i:Nat}{e:E}:ex T cf (d+1) (.set i e) ρ hs=bd (ev T cf d e ρ hs) fun u h1=>some (.next,ρ.set i (some u),h1):=by rw [ex]
theorem Q0{e:E}:ex T cf (d+1) (.ret e) ρ hs=bd (ev T cf d e ρ hs) fun u h1=>some (.ret u,ρ,h1):=by rw [ex]
theorem QT{t:E}{a b:List S}:ex T cf (d+1) (.ite t a b) ρ hs=bd (evT T cf d t ρ hs) fun c h1=>if c=true then exs T cf d a ρ h1 else exs T cf d b ρ h1:=by
 rw [ex]
 cases h:evT T cf d t ρ hs with
 | none=>rfl
 | some p=>obtain⟨c,h1⟩:=p;cases c<;>rfl
theorem Qhn{t:Tg}{s:Src}{body:List S}:ex T cf (d+1) (.loop t s body) ρ hs=bd (YH T (ev T cf d) ρ s hs) fun w h1=>Qal T w t (exs T cf d body) (JX T w h1) 0 ρ h1:=by rw [ex]
theorem y_c{u:U}:ev T cf (d+1) (.c u) ρ hs=some (u,hs):=by rw [ev]
theorem Ze{k:Nat}:ev T cf (d+1) (.con k) ρ hs=some (.con k,hs):=by rw [ev]
theorem QH{i:Nat}:ev T cf (d+1) (.var i) ρ hs=(match ρ[i]? with | some (some u)=>some (u,hs) | _=>none):=by rw [ev]<;>rfl
theorem ZA{o:Operator}{a b:E}:ev T cf (d+1) (.op o a b) ρ hs=bd (ev T cf d a ρ hs) fun u h1=>bd (ev T cf d b ρ h1) fun w h2=>opU o u w h2:=by rw [ev]
theorem Q1{o:CmpOp}{a b:E}:ev T cf (d+1) (.cmp o a b) ρ hs=bd (ev T cf d a ρ hs) fun u h1=>bd (ev T cf d b ρ h1) fun w h2=>(Zv T o u w h2).map fun c=>(.bl c,h2):=by rw [ev]
theorem Zc{a:E}:ev T cf (d+1) (.not a) ρ hs=bd (ev T cf d a ρ hs) fun u h1=>(YX T u h1).map fun c=>(.bl (!c),h1):=by rw [ev]
theorem Zd{t a b:E}:ev T cf (d+1) (.ife t a b) ρ hs=bd (evT T cf d t ρ hs) fun c h1=>if c=true then ev T cf d a ρ h1 else ev T cf d b ρ h1:=by rw [ev]
theorem QjA{es:List E}:ev T cf (d+1) (.tup es) ρ hs=bd (evs (ev T cf d) ρ es hs) fun us h1=>some (.ref h1.length,h1++[.tup us]):=by rw [ev]
theorem QjB{es:List E}:ev T cf (d+1) (.lst es) ρ hs=bd (evs (ev T cf d) ρ es hs) fun us h1=>some (.ref h1.length,h1++[.lst us]):=by rw [ev]
theorem Z3{a b:E}:ev T cf (d+1) (.ix a b) ρ hs=bd (ev T cf d a ρ hs) fun u h1=>bd (ev T cf d b ρ h1) fun w h2=>(Z4 T u w h2).map fun x=>(x,h2):=by rw [ev]
theorem Qjm{a:E}{lo hi:Option E}:ev T cf (d+1) (.sl a lo hi) ρ hs=bd (ev T cf d a ρ hs) fun u h1=>bd (evO (ev T cf d) ρ lo h1) fun l h2=>bd (evO (ev T cf d) ρ hi h2) fun r h3=>slU T u l r h3:=by rw [ev]
theorem QA{f:Nat}{es:List E}:ev T cf (d+1) (.call f es) ρ hs=bd (evs (ev T cf d) ρ es hs) fun us h1=>cf f us h1:=by rw [ev]
theorem Z9{b:Bi}{es:List E}:ev T cf (d+1) (.bi b es) ρ hs=bd (evs (ev T cf d) ρ es hs) fun us h1=>biU T b us h1:=by rw [ev]
theorem Za{a:E}{t:Ty}:ev T cf (d+1) (.isi a t) ρ hs=bd (ev T cf d a ρ hs) fun u h1=>(JC T t u h1).map fun b=>(.bl b,h1):=by rw [ev]
theorem Zf{a b:E}:ev T cf (d+1) (.and a b) ρ hs=bd (ev T cf d a ρ hs) fun u h1=>(match u with | .bl true=>ev T cf d b ρ h1 | .bl false=>some (.bl false,h1) | _=>none):=by rw [ev]<;>rfl
theorem YB{a b:E}:ev T cf (d+1) (.or a b) ρ hs=bd (ev T cf d a ρ hs) fun u h1=>(match u with | .bl true=>some (.bl true,h1) | .bl false=>ev T cf d b ρ h1 | _=>none):=by rw [ev]<;>rfl
theorem Qho:ev T cf (d+1) .dnew ρ hs=some (.ref hs.length,hs++[.dic []]):=by rw [ev]
theorem QB{a:E}:evT T cf (d+1) (.not a) ρ hs=bd (evT T cf d a ρ hs) fun c h1=>some (!c,h1):=by rw [evT]
theorem QN{a b:E}:evT T cf (d+1) (.and a b) ρ hs=bd (evT T cf d a ρ hs) fun c h1=>if c=true then evT T cf d b ρ h1 else some (false,h1):=by rw [evT]
theorem Q7{a b:E}:evT T cf (d+1) (.or a b) ρ hs=bd (evT T cf d a ρ hs) fun c h1=>if c=true then some (true,h1)else evT T cf d b ρ h1:=by rw [evT]
theorem Qy{o:CmpOp}{a b:E}:evT T cf (d+1) (.cmp o a b) ρ hs=bd (ev T cf d (.cmp o a b) ρ hs) fun u h1=>(YX T u h1).map fun c=>(c,h1):=by rw [evT]<;>simp
theorem QM{i:Nat}:evT T cf (d+1) (.var i) ρ hs=bd (ev T cf d (.var i) ρ hs) fun u h1=>(YX T u h1).map fun c=>(c,h1):=by rw [evT]<;>simp
theorem QD{a:E}{t:Ty}:evT T cf (d+1) (.isi a t) ρ hs=bd (ev T cf d (.isi a t) ρ hs) fun u h1=>(YX T u h1).map fun c=>(c,h1):=by rw [evT]<;>simp
theorem Qq{f:Nat}{es:List E}:evT T cf (d+1) (.call f es) ρ hs=bd (ev T cf d (.call f es) ρ hs) fun u h1=>(YX T u h1).map fun c=>(c,h1):=by rw [evT]<;>simp
theorem Zb{n f:Nat}{us:List U}(F:Fn)(hF:T.fns[f]?=some F)(hl:us.length=F.np):Ql T (n+1) f us hs=fin (exs T (Ql T n) dd F.body (QhX us F.nN) hs):=by simp [Ql,hF,hl]
end
end Iv
namespace Iv
open PySem PySem.Spec PyProof.Rows L2
noncomputable def TX(T:Tbl)(A:Adr)(K:PySem.W.Frag)(f:Rho->Hs->Option (Nat×Hs))(E:XK):TS:=fun _ σ H=>∃α ρ hs c hs',RS A α ρ σ/\Rep T A K α hs H/\f ρ hs=some (c,hs') /\
 ∀α' H',Ext α α' H H'->Rep T A K α' hs' H'->E (.ref (A.c c)) none H'
section
variable {X:Cx}{T:Tbl}{A:Adr}{C:Ctx}{cf:Cf}{m k:Nat}{E:XK}
theorem Qlx{st:Stmt}{t:TS}(h:PS X.nox st t):PS X st t:=fun pins s σ H D I hw =>
 wpAny_mono (h pins s σ H D (I.wish _) hw) (fun _ _ q=>q.unwish) fun _ _ z=>False.elim z
theorem Qly{es:List Expr}{t:TA}(h:PA X.nox es t):PA X es t:=fun pos pins s σ H Q I hw =>
 wpAny_mono (h pos pins s σ H Q (I.wish _) hw) (fun _ _ ⟨vs,H',I',r,q⟩=>⟨vs,H',I'.unwish,r,q⟩) fun _ _ z=>False.elim z
theorem TX.run{K:PySem.W.Frag}{α:List Addr}{ρ:Rho}{σ:St}{hs h1:Hs}{H:Hp}{f:Rho->Hs->Option (Nat×Hs)}{c:Nat}{D:Ends}(rs:RS A α ρ σ)(rp:Rep T A K α hs H)(h:f ρ hs=some (c,h1))
  (q:∀α1 H1,Ext α α1 H H1->Rep T A K α1 h1 H1->E (.ref (A.c c)) none H1):TX T A K f E D σ H:=⟨α,ρ,hs,c,h1,rs,rp,h,q⟩
theorem Qd5 {e f : Option Expr} {c : Nat} {args : List Expr} (h : QfV C e f = some (c, args)) : ∃ x px q, e = some (.Call (.Name x px) args [] q) /\ f = none /\ ZQ C x = true /\ x ≠ "__debug__" /\ C.gl.lookup x = some (.cls c) /\ C.T.ers.contains c = true := by
 unfold QfV at h;split at h
 ·split at h
  ·rename_i q;simp only [Bool.and_eq_true,decide_eq_true_eq]at q;split at h
   ·rename_i z;split at h
    ·rename_i z2;cases h;exact⟨_,_,_,rfl,rfl,q.1,q.2,z,z2⟩
    ·cases h
   ·cases h
  ·cases h
 ·cases h
structure SndX(T:Tbl)(A:Adr)(C:Ctx)(X:Cx)(cf:Cf)(E:XK)(m:Nat):Prop where
 s:∀d st ir,Q6 m C st=some ir->PS X st (TX T A X.K (exX T cf d ir) E)
 ss:∀d sts irs,compSs m C sts=some irs->PSs X sts (TX T A X.K (exsX T cf d irs) E)
noncomputable def kdX:S->Bool
 | .rse .. | .ite ..=>true
 | _=>false
noncomputable def nx(o:Option S):Prop:=∀ir,o=some ir->kdX ir=false
theorem Q3:nx none:=fun _ h=>nomatch h
theorem QR{s:S}(h:kdX s=false):nx (some s):=fun _ e=>by cases e;exact h
theorem QF{α:Type}{o:Option α}{f:α->Option S}(h:∀a,nx (f a)):nx (o.bind f):=by
 cases o with
 | none=>exact Q3
 | some a=>exact h a
theorem Qb7{α:Type}{o:Option α}{f:α->S}(h:∀a,kdX (f a)=false):nx (o.map f):=by
 cases o with
 | none=>exact Q3
 | some a=>exact QR (h a)
theorem Qaf{c:Prop}[Decidable c]{a b:Option S}(ha:nx a)(hb:nx b):nx (if c then a else b):=by
 by_cases h:c
 ·rw [if_pos h];exact ha
 ·rw [if_neg h];exact hb
theorem Qb6{st:Stmt}(h1:∀e f p,st≠.Raise e f p)(h2:∀t a b p,st≠.If t a b p):nx (Q6 (m+1) C st):=by
 cases st with
 | Raise e f p=>exact absurd rfl (h1 e f p)
 | If t a b p=>exact absurd rfl (h2 t a b p)
 | Pass=>exact QR rfl
 | Break=>exact QR rfl
 | Continue=>exact QR rfl
 | Expr e p =>
  unfold Q6;dsimp only;generalize Qkz e=z
  rcases z with _ | _ | _
  ·exact Qb7 fun _=>rfl
  ·exact Q3
  ·exact QR rfl
 | Return v p =>
  cases v with
  | none=>exact QR rfl
  | some e=>exact Qb7 fun _=>rfl
 | Assign ts e p =>
  unfold Q6;dsimp only;generalize Qhg ts=z
  rcases z with _ | z
  ·exact Q3
  ·cases z with
   | nm x=>exact Qaf (QF fun _=>Qaf (QR rfl) (QF fun _=>QR rfl)) Q3
   | «at» o f=>exact Qaf (QF fun _=>QF fun _=>QF fun _=>QR rfl) Q3
   | sub o i=>exact Qaf (QF fun _=>QF fun _=>QF fun _=>QR rfl) Q3
   | two x p y q =>
    refine Qaf (QF fun _=>QF fun _=>?_) Q3;generalize Qfh e=z
    rcases z with _ | ⟨a,b⟩
    ·exact Qaf (Qb7 fun _=>rfl) Q3
    ·exact Q3
 | Try b hs o fn p=>exact QF fun _=>QF fun _=>QR rfl
 | For tg it a o p =>
  cases o with
  | cons _ _=>exact Q3
  | nil =>
   refine QF fun tg'=>QF fun it'=>?_;generalize Qkr C tg tg'=z
   rcases z with _ | i
   ·refine Qaf (QF fun a'=>?_) Q3;split
    ·by_cases hd:C.T.ld=true
     ·rw [if_pos hd];exact QR rfl
     ·rw [if_neg hd];exact QR rfl
    ·exact QR rfl
   ·exact QF fun _=>QF fun _=>QR rfl
 | _=>exact Q3
theorem QcM {st : Stmt} {c : Nat} {es : List Iv.E} (h : Q6 (m + 1) C st = some (.rse c es)) : ∃ x px q args p, st = .Raise (some (.Call (.Name x px) args [] q)) none p /\ compA m C args = some es /\ ZQ C x = true /\ x ≠ "__debug__" /\ C.gl.lookup x = some (.cls c) /\ C.T.ers.contains c = true := by
 by_cases q:∃e f p,st=.Raise e f p
 ·obtain⟨e,f,p,rfl⟩:=q;simp only [Q6]at h;split at h
  ·rename_i c' args hr;simp only [Option.bind_eq_some_iff]at h;obtain⟨es',he,h⟩:=h;cases h;obtain⟨x,px,q,rfl,rfl,h1,h2,h3,h4⟩:=Qd5 hr;exact⟨x,px,q,args,p,rfl,he,h1,h2,h3,h4⟩
  ·cases h
 ·by_cases q2:∃t a b p,st=.If t a b p
  ·obtain⟨t,a,b,p,rfl⟩:=q2;simp only [Q6,Option.bind_eq_some_iff]at h;obtain⟨t',ht,a',ha,b',hb,h⟩:=h;cases h
  ·exact nomatch Qb6 (fun e f p z=>q ⟨e,f,p,z⟩) (fun t a b p z=>q2 ⟨t,a,b,p,z⟩) _ h
theorem QcN{st:Stmt}{t:Iv.E}{a b:List S}(h:Q6 (m+1) C st=some (.ite t a b)):∃t0 a0 b0 p,st=.If t0 a0 b0 p/\compT m C t0=some t/\compSs m C a0=some a/\compSs m C b0=some b:=by
 by_cases q2:∃t a b p,st=.If t a b p
 ·obtain⟨t0,a0,b0,p,rfl⟩:=q2;simp only [Q6,Option.bind_eq_some_iff]at h;obtain⟨t',ht,a',ha,b',hb,h⟩:=h;cases h;exact⟨t0,a0,b0,p,rfl,ht,ha,hb⟩
 ·by_cases q:∃e f p,st=.Raise e f p
  ·obtain⟨e,f,p,rfl⟩:=q;simp only [Q6]at h;split at h
   ·simp only [Option.bind_eq_some_iff]at h;obtain⟨es',he,h⟩:=h;cases h
   ·cases h
  ·exact nomatch Qb6 (fun e f p z=>q ⟨e,f,p,z⟩) (fun t a b p z=>q2 ⟨t,a,b,p,z⟩) _ h
theorem QlG(hxe:∀pins σ H s h' e vs c,Inv X pins σ H s->Heap.MadeExcOf s.heap h' e (.ref (A.c c)) vs->E (.ref (A.c c)) none H->X.xe (.ref e) { s with heap:=h' })(bX:Bd X)(g:GX T A C X.nox)(fl:∀x,X.fn x=true\/X.env.scope.names.lookup x=some .local)(F:Fc X.nox T A cf k)(hr:Room (k+1) X.A):∀m,SndX T A C X cf E m
 | 0=>⟨fun d st ir h=>by simp [Q6]at h,fun d sts irs h=>by simp [compSs]at h⟩
 | m+1=>by
  have IH:=QlG hxe bX g fl F hr m;have N:Snd2 T A C X.nox cf m:=Qfa m g F hr;have NS:SndS T A C X.nox cf m:=QjQ (X:=X.nox) ⟨bX.stk,bX.frm,bX.ex⟩ g fl F hr m;refine⟨fun d st ir h=>?_,fun d sts irs h=>?_⟩
  ·cases d with
   | zero=>exact Yx fun D σ H ⟨_,_,_,_,_,_,_,e,_⟩=>by cases e
   | succ d =>
   cases ir with
   | rse c es =>
    obtain⟨x,px,q,args,p,rfl,ha,g1,g2,g3,g4⟩:=QcM h;have cl:=g.gcl x c g3;rw [g.CT]at g4;have xk:=(g.txt.er c g4).2;have pa:=Qly (N.s.a d args es ha);have ln:=QC ha
    cases args with
    | nil =>
     have ee:es=[]:=by simpa using ln
     subst ee;refine Zk (QbO (W:=fun H=>E (.ref (A.c c)) none H) xk (show Gl X x from QZ (X:=X.nox) g g1) cl g.calm (fun pins σ H s h' e vs I mx w=>hxe pins σ H s h' e vs c I mx w) (QO g2)) ?_;rintro D σ H ⟨α,ρ,hs,c',hs',rs,R,e,q⟩;simp only [exX,evs,bd]at e;rw [Option.ite_none_right_eq_some]at e;obtain⟨_,e⟩:=e;cases e;exact q α H Ext.refl R
    | cons a r =>
     refine Zk (Qea (W:=fun H=>E (.ref (A.c c)) none H) xk (show Gl X x from QZ (X:=X.nox) g g1) cl g.calm pa (fun pins σ H s h' e vs I mx w=>hxe pins σ H s h' e vs c I mx w) (Qk (Qn ha a (List.mem_cons_self ..))) (Q4 fun z hz=>Qn ha z (List.mem_cons_of_mem _ hz)) (QO g2)) ?_;rintro D σ H ⟨α,ρ,hs,c',hs',rs,R,e,q⟩;simp only [exX]at e;obtain⟨us,h1,e1,e⟩:=Qb e;rw [Option.ite_none_right_eq_some]at e;obtain⟨⟨_,lz⟩,e⟩:=e;cases e;refine TIA.run rs R e1 fun α1 vs H1 E1 R1 r1 rs1=>⟨?_,q α1 H1 E1 R1⟩;rw [<-r1.length,ZW e1]
     exact Nat.le_trans lz (by decide)
   | ite t a b =>
    obtain⟨t0,a0,b0,p,rfl,ht,ha,hb⟩:=QcN h;refine Zk (Qia (PT.nox (N.s.t d t0 t ht).1) (IH.ss d a0 a ha) (IH.ss d b0 b hb)) ?_;rintro D σ H ⟨α,ρ,hs,c',hs',rs,R,e,q⟩;simp only [exX]at e;split at e
    ·rename_i h1 e1;refine TIT.run rs R e1 fun α1 H1 E1 R1 rs1=>?_;rw [if_pos rfl];exact TX.run rs1 R1 e fun α2 H2 E2 R2=>q α2 H2 (E1.trans E2 R2.h) R2
    ·rename_i h1 e1;refine TIT.run rs R e1 fun α1 H1 E1 R1 rs1=>?_;rw [if_neg Bool.false_ne_true];exact TX.run rs1 R1 e fun α2 H2 E2 R2=>q α2 H2 (E1.trans E2 R2.h) R2
    ·cases e
   | _=>exact Yx fun D σ H ⟨_,_,_,_,_,_,_,e,_⟩=>by simp [exX]at e
  ·cases d with
   | zero=>exact Z8 fun D σ H ⟨_,_,_,_,_,_,_,e,_⟩=>by cases e
   | succ d =>
   cases sts with
   | nil =>
    cases h
    exact Z8 fun D σ H ⟨_,_,_,_,_,_,_,e,_⟩=>by simp [exsX]at e
   | cons st r =>
    simp only [compSs,Option.bind_eq_some_iff]at h;obtain⟨s',hs',r',hr',h⟩:=h;cases h;intro pins s σ H D I z;obtain⟨α,ρ,hs,c',hs2,rs,R,e,q⟩:=z;simp only [exsX]at e;split at e
    ·rename_i ρ1 h1 e1;refine Y2 (Qlx (NS.s d st s' hs')) (IH.ss d r r' hr') pins s σ H D I ?_;exact TIS.run rs R e1 fun α1 σ1 H1 E1 R1 rs1=>TX.run (D:=D) rs1 R1 e fun α2 H2 E2 R2=>q α2 H2 (E1.trans E2 R2.h) R2
    ·cases e
    ·refine Y2 (IH.s d st s' hs') (Z8 (t:=fun _ _ _=>False) fun _ _ _ z=>z) pins s σ H D I ?_;exact TX.run (D:=D) rs R e q
end
section
variable {P:Program}{w:World}{K:PySem.W.Frag}{mg:Str->Option Value}{base:Heap}{T:Tbl}{A:Adr}{gl:List (Str×G)}{bl:List Str}
theorem Qg0{rm:Nat}(tp:Top T A K mg gl bl)(tab:Jh P w T A K)(hb:YA T gl bl)(hX:XOk P w K mg base T A rm)(m f:Nat)(F:Fn)(hF:T.fns[f]?=some F):∃fd,FnOk P w K mg base (CXw P w) (rm+2*m) (A.f f) fd F.ps (spX T A K (Qau T m) f)/\Binds K fd F.ps []/\PySem.W.keepIn K (.ref (A.f f))=true:=by
 obtain⟨fd,fn,b,sc,lp,lN⟩:=tp.txt.fn f F hF;refine⟨fd,?_,b,fn.kp⟩
 cases m with
 | zero =>
  have no:∀vs H Q E,¬spX T A K (Qau T 0) f vs H Q E:=fun vs H Q E h=>by
   obtain⟨α,us,hs,u,hs',_,_,e,_⟩:=h;cases e
  exact⟨fun vs H Q E h=>absurd h (no vs H Q E),fun A outer s H args us vs Q E _ _ _ _ h=>absurd h (no vs H Q E)⟩
 | succ n =>
  obtain⟨oc,od,dV,kV,doc,pm,an,cdv,ct,osl,rfl,lk,hcd⟩:=fn.ex;obtain⟨m,hm⟩:=hb f F hF;refine Qi1 (k:=rm+2*n+1) lk hcd sc (fun vs H Q E h=>?_) (fun A' outer s H vs Q E hr h=>?_)
  ·obtain⟨α,us,hs,u,hs',r,_,_,⟨F',h1,h2⟩,_⟩:=h;rw [hF]at h1;cases h1;rw [<-r.length,h2,lp]
  ·obtain⟨α,us,hs,c,hs',r,R,e,_,q⟩:=h;refine⟨TX T A K (exsX T (Ql T n) dd F.body) E,?_,?_⟩
   ·have gx:GX T A ⟨T,F.N,(Qa F.st).names,gl,bl,F.lc⟩ (QcJ (CXw P w) P w K mg base F.N F.qual (Qa F.st) (A.f f) cdv A' outer s H E).nox :=
     ⟨rfl,rfl,sc.nd,rfl,rfl,sc.kind,rfl,tp.gfn,tp.gcl,tp.gco,tp.gtx,tp.blt,tp.txt,tab⟩
    have fc:Fc (QcJ (CXw P w) P w K mg base F.N F.qual (Qa F.st) (A.f f) cdv A' outer s H E).nox T A (Ql T n) (rm+2*n):=⟨fun f' F' h'=>by
     obtain⟨fd',G,b',kp,_⟩:=JG tp tab hb hX n f' F' h'
     exact⟨fd',G,b',kp⟩,YV,fun i D F' hD h'=>by
     obtain⟨fd',G,_,kp,fn'⟩:=JG tp tab hb hX n i F' h';obtain⟨fd2,x,q,st,fn2,dk,hp⟩:=tp.txt.df i D hD;have e:=FunD.same fn2 fn';subst e;rw [(hp F' h').1]at G
     exact⟨fd2,G,kp,dk⟩,fun f' F' h'=>by
     obtain⟨fd',G,b',kp⟩:=hX f' F' h'
     exact⟨fd',G.mono (Nat.le_add_right _ _),b',kp⟩⟩
    refine(QlG (X:=QcJ (CXw P w) P w K mg base F.N F.qual (Qa F.st) (A.f f) cdv A' outer s H E) (fun pins σ H1 s1 h' e vs c I mx w=>?_) ⟨rfl,rfl,rfl⟩ gx (fun _=>.inl rfl) fc hr m).ss dd (Qc F.st) F.body hm;exact Qbi (L:=_) rfl rfl rfl I mx w
   ·simp only [Qau,hF]at e;split at e
    case isFalse=>cases e
    exact TX.run (YY r lN) R e q
theorem QhY{T':Tbl}{α:List Addr}{hs:Hs}{H:Hp}(h1:T'.fns'=T.fns')(h2:T'.cls=T.cls)(h3:T'.scr=T.scr)(h4:T'.ers=T.ers)(R:Rep T A K α hs H):Rep T' A K α hs H:=by
 refine⟨⟨R.h.len,R.h.nd,fun n a o e1 e2=>?_⟩,?_⟩
 ·have z:=R.h.ob n a o e1 e2
  cases o with
  | ins c fs =>
   obtain⟨dx,fv,q1,q2,q3⟩:=z
   refine⟨dx,fv,q1,?_,by rw [h2];exact q3⟩
   unfold RF at *;rw [h1];exact q2
  | err c =>
   obtain⟨q1,q2⟩:=z
   exact⟨q1,by rw [h4];exact q2⟩
  | _=>exact z
 ·obtain⟨vs,q1,q2⟩:=R.s
  exact⟨vs,by rw [h3];exact q1,q2⟩
theorem Qma{rm m:Nat}{T':Tbl}(hf:T'.fns=T.fns)(h1:T'.fns'=T.fns')(h2:T'.cls=T.cls)(h3:T'.scr=T.scr)(h4:T'.ers=T.ers)(hx:T'.xf=Qau T m)(tp:Top T A K mg gl bl)(tab:Jh P w T A K)(hb:YA T gl bl)(hX:XOk P w K mg base T A rm):
  XOk P w K mg base T' A (rm+2*m):=fun f F hF=>by
 rw [hf]at hF;obtain⟨fd,G,b,kp⟩:=Qg0 tp tab hb hX m f F hF;refine⟨fd,G.imp fun vs H Q E h=>?_,b,kp⟩;obtain⟨α,us,hs,c,hs',r,R,e,⟨F',e1,e2⟩,q⟩:=h
 refine⟨α,us,hs,c,hs',r,QhY h1.symm h2.symm h3.symm h4.symm R,by rw [<-hx];exact e,⟨F',by rw [<-hf];exact e1,e2⟩,fun α' H' E' R'=>q α' H' E' (QhY h1 h2 h3 h4 R')⟩
theorem QjE{x:Nat->List U->Hs->Option (Nat×Hs)}(tp:Top T A K mg gl bl):Top { T with xf:=x } A K mg gl bl :=
 ⟨⟨tp.txt.fn,tp.txt.df,fun i C e=>let c:=tp.txt.cl i C e;⟨c.cls,c.nf,c.me,c.mks,c.kp,c.ini,c.ty⟩,tp.txt.fm,tp.txt.fd,tp.txt.isi,tp.txt.co,tp.txt.er,tp.txt.es⟩,tp.gfn,tp.gcl,tp.gco,tp.gtx,tp.blt⟩
end
end Iv
namespace K05
open PySem Iv L2
noncomputable def top(i:Nat):Stmt:=PySem.Challenge.pw_stitchroom_k05_marks_read.main.body.getD i (.Pass ⟨0,0,0,0⟩)
noncomputable def fldN:List Str:=["side","many","way","first","second","keeper"]
noncomputable def mthN:List Str:=["ties","ends","takes","gives","mark","mirrored","turned"]
noncomputable def glo:List (Str×G):=([("KEEPERS",.con 0),("SIDE_SIGNS",.con 1),("CROSS_SIGNS",.con 2),("Stitch",.cls 0),("Plain",.cls 1),("Slip",.cls 2),("Over",.cls 3),("Lean",.cls 4),("Grow",.cls 5),("Cross",.cls 6),("Off",.cls 7),("Keep",.cls 8),("Fetch",.cls 9),("SIDES",.con 3),("CROSS_SIDES",.con 4),("LEAN_WAYS",.con 5),("CROSS_WAYS",.con 6),("MANY",.con 7),("CROSSED",.con 8),("stitch",.fn 35)]:List (Str×G))++([("stitch_of_text",.fn 36),("bare_stitch",.fn 37),("keeper_stitch",.fn 38),("sided_stitch",.fn 39),("crossing",.fn 40),("_law_same",.fn 41),("_law_told",.fn 42),("_law_mark",.fn 43),("_law_ties",.fn 44),("_law_ends",.fn 45),("_law_takes",.fn 46),("_law_sign_by",.fn 47),("_law_thing",.fn 48),("_law_of_class",.fn 49),("_law_refused",.fn 50),("law",.fn 51),("StitchError",.cls 10),("NoStitch",.cls 11),("NoSum",.cls 12),("NoPattern",.cls 13)]:List (Str×G))++([("TooMany",.cls 14),("Miscount",.cls 15),("NotLying",.cls 16),("NoChart",.cls 17),("Tangle",.cls 18),("NoRow",.cls 19),("NoName",.cls 20),("NoPlace",.cls 21)]:List (Str×G))
noncomputable def Qjv:List Str:=["len","int","str","tuple","list","bool","isinstance","range","zip","ValueError"]
noncomputable def Z1:List Co:=[.tup [.str [119],.str [120],.str [121],.str [122]],.tab [(.int 1 0,.str [107]),(.int (-1) 0,.str [112])],.tab [(.int 1 0,.str [99]),(.int (-1) 0,.str [113])],.tab [(.str [107],.int 1 0),(.str [112],.int (-1) 0)],.tab [(.str [99],.int 1 0),(.str [113],.int (-1) 0)],.tup [.str [114],.str [108]],.tup [.str [102],.str [98]],.tab [(.str [50],.int 2 0),(.str [51],.int 3 0),(.str [52],.int 4 0)],.tab [(.str [49],.int 1 0),(.str [50],.int 2 0),(.str [51],.int 3 0),(.str [52],.int 4 0)]]
noncomputable def Qnz:List Cl:=[⟨"Stitch",none,[(0,0),(1,1)],[0]⟩,⟨"Plain",some 2,[(0,4),(1,1),(2,3),(4,5)],[1,0]⟩,⟨"Slip",none,[(0,7),(1,1),(2,6),(4,8)],[2,0]⟩,⟨"Over",none,[(0,10),(1,1),(2,9),(4,11)],[3,0]⟩,⟨"Lean",some 12,[(0,14),(1,1),(2,13),(4,15)],[4,0]⟩,⟨"Grow",some 16,[(0,18),(1,1),(2,17),(4,19)],[5,0]⟩,⟨"Cross",some 20,[(0,22),(1,1),(2,21),(4,23)],[6,0]⟩,⟨"Off",none,[(0,0),(1,25),(2,24),(4,26)],[7,0]⟩,⟨"Keep",some 27,[(0,0),(1,29),(2,28),(4,30)],[8,0]⟩,⟨"Fetch",some 31,[(0,33),(1,1),(2,32),(4,34)],[9,0]⟩]
noncomputable def isiL:List ((Ty×Ty)×Bool):=[((.cls 0,.cls 6),false),((.cls 1,.cls 6),false),((.cls 2,.cls 6),false),((.cls 3,.cls 6),false),((.cls 4,.cls 6),false),((.cls 5,.cls 6),false),((.cls 6,.cls 6),true),((.cls 7,.cls 6),false),((.cls 8,.cls 6),false),((.cls 9,.cls 6),false),((.cls 0,.cls 9),false),((.cls 1,.cls 9),false),((.cls 2,.cls 9),false),((.cls 3,.cls 9),false),((.cls 4,.cls 9),false),((.cls 5,.cls 9),false),((.cls 6,.cls 9),false),((.cls 7,.cls 9),false),((.cls 8,.cls 9),false),((.cls 9,.cls 9),true),((.cls 0,.cls 5),false),((.cls 1,.cls 5),false),((.cls 2,.cls 5),false),((.cls 3,.cls 5),false),((.cls 4,.cls 5),false),((.cls 5,.cls 5),true),((.cls 6,.cls 5),false),((.cls 7,.cls 5),false),((.cls 8,.cls 5),false),((.cls 9,.cls 5),false),((.cls 0,.cls 8),false),((.cls 1,.cls 8),false),((.cls 2,.cls 8),false),((.cls 3,.cls 8),false),((.cls 4,.cls 8),false),((.cls 5,.cls 8),false),((.cls 6,.cls 8),false),((.cls 7,.cls 8),false),((.cls 8,.cls 8),true),((.cls 9,.cls 8),false),((.cls 0,.cls 4),false),((.cls 1,.cls 4),false),((.cls 2,.cls 4),false),((.cls 3,.cls 4),false),((.cls 4,.cls 4),true),((.cls 5,.cls 4),false),((.cls 6,.cls 4),false),((.cls 7,.cls 4),false),((.cls 8,.cls 4),false),((.cls 9,.cls 4),false),((.cls 0,.cls 7),false),((.cls 1,.cls 7),false),((.cls 2,.cls 7),false),((.cls 3,.cls 7),false),((.cls 4,.cls 7),false),((.cls 5,.cls 7),false),((.cls 6,.cls 7),false),((.cls 7,.cls 7),true),((.cls 8,.cls 7),false),((.cls 9,.cls 7),false),((.cls 0,.cls 3),false),((.cls 1,.cls 3),false),((.cls 2,.cls 3),false),((.cls 3,.cls 3),true),((.cls 4,.cls 3),false),((.cls 5,.cls 3),false),((.cls 6,.cls 3),false),((.cls 7,.cls 3),false),((.cls 8,.cls 3),false),((.cls 9,.cls 3),false),((.cls 0,.cls 1),false),((.cls 1,.cls 1),true),((.cls 2,.cls 1),false),((.cls 3,.cls 1),false),((.cls 4,.cls 1),false),((.cls 5,.cls 1),false),((.cls 6,.cls 1),false),((.cls 7,.cls 1),false),((.cls 8,.cls 1),false),((.cls 9,.cls 1),false),((.cls 0,.cls 2),false),((.cls 1,.cls 2),false),((.cls 2,.cls 2),true),((.cls 3,.cls 2),false),((.cls 4,.cls 2),false),((.cls 5,.cls 2),false),((.cls 6,.cls 2),false),((.cls 7,.cls 2),false),((.cls 8,.cls 2),false),((.cls 9,.cls 2),false),((.cls 2,.str),false),((.cls 11,.cls 11),true),((.cls 11,.cls 12),false),((.cls 11,.cls 13),false),((.cls 11,.cls 14),false),((.cls 11,.cls 15),false),((.cls 11,.cls 16),false),((.cls 11,.cls 17),false),((.cls 11,.cls 18),false),((.cls 11,.cls 19),false),((.cls 11,.cls 20),false),((.cls 11,.cls 21),false),((.cls 11,.vale),true)]
noncomputable abbrev st0:Stmt:=Qi (top 18) 0
noncomputable def N0:List Str:=["self"]
noncomputable abbrev st1:Stmt:=Qi (top 18) 1
noncomputable def N1:List Str:=["self"]
noncomputable abbrev st2:Stmt:=Qi (top 19) 0
noncomputable def N2:List Str:=["self","side"]
noncomputable abbrev st3:Stmt:=Qi (top 19) 1
noncomputable def N3:List Str:=["self"]
noncomputable abbrev st4:Stmt:=Qi (top 19) 3
noncomputable def N4:List Str:=["self"]
noncomputable abbrev st5:Stmt:=Qi (top 19) 4
noncomputable def N5:List Str:=["self"]
noncomputable abbrev st6:Stmt:=Qi (top 20) 0
noncomputable def N6:List Str:=["self"]
noncomputable abbrev st7:Stmt:=Qi (top 20) 2
noncomputable def N7:List Str:=["self"]
noncomputable abbrev st8:Stmt:=Qi (top 20) 3
noncomputable def N8:List Str:=["self"]
noncomputable abbrev st9:Stmt:=Qi (top 21) 0
noncomputable def N9:List Str:=["self"]
noncomputable abbrev QdW:Stmt:=Qi (top 21) 2
noncomputable def N10:List Str:=["self"]
noncomputable abbrev QdV:Stmt:=Qi (top 21) 3
noncomputable def N11:List Str:=["self"]
noncomputable abbrev QdU:Stmt:=Qi (top 22) 0
noncomputable def N12:List Str:=["self","many","way","side"]
noncomputable abbrev QdT:Stmt:=Qi (top 22) 1
noncomputable def N13:List Str:=["self"]
noncomputable abbrev QdS:Stmt:=Qi (top 22) 3
noncomputable def N14:List Str:=["self","parents"]
noncomputable abbrev QdR:Stmt:=Qi (top 22) 4
noncomputable def N15:List Str:=["self"]
noncomputable abbrev QdQ:Stmt:=Qi (top 23) 0
noncomputable def N16:List Str:=["self","many","side"]
noncomputable abbrev QdP:Stmt:=Qi (top 23) 1
noncomputable def N17:List Str:=["self"]
noncomputable abbrev QdO:Stmt:=Qi (top 23) 3
noncomputable def N18:List Str:=["self"]
noncomputable abbrev QdN:Stmt:=Qi (top 23) 4
noncomputable def N19:List Str:=["self"]
noncomputable abbrev QdM:Stmt:=Qi (top 24) 0
noncomputable def N20:List Str:=["self","first","second","way","side"]
noncomputable abbrev QdL:Stmt:=Qi (top 24) 1
noncomputable def N21:List Str:=["self"]
noncomputable abbrev QdK:Stmt:=Qi (top 24) 3
noncomputable def N22:List Str:=["self","lift","later","former"]
noncomputable abbrev QdJ:Stmt:=Qi (top 24) 4
noncomputable def N23:List Str:=["self"]
noncomputable abbrev QdI:Stmt:=Qi (top 25) 0
noncomputable def N24:List Str:=["self"]
noncomputable abbrev QdH:Stmt:=Qi (top 25) 2
noncomputable def N25:List Str:=["self"]
noncomputable abbrev QdG:Stmt:=Qi (top 25) 3
noncomputable def N26:List Str:=["self"]
noncomputable abbrev QdF:Stmt:=Qi (top 26) 0
noncomputable def N27:List Str:=["self","keeper"]
noncomputable abbrev QdE:Stmt:=Qi (top 26) 1
noncomputable def N28:List Str:=["self"]
noncomputable abbrev QdD:Stmt:=Qi (top 26) 3
noncomputable def N29:List Str:=["self"]
noncomputable abbrev QdC:Stmt:=Qi (top 26) 4
noncomputable def N30:List Str:=["self"]
noncomputable abbrev QdB:Stmt:=Qi (top 27) 0
noncomputable def N31:List Str:=["self","keeper"]
noncomputable abbrev QdA:Stmt:=Qi (top 27) 1
noncomputable def N32:List Str:=["self"]
noncomputable abbrev Qdz:Stmt:=Qi (top 27) 3
noncomputable def N33:List Str:=["self"]
noncomputable abbrev Qdy:Stmt:=Qi (top 27) 4
noncomputable def N34:List Str:=["self"]
noncomputable abbrev Qdx:Stmt:=top 35
noncomputable def N35:List Str:=["mark","found"]
noncomputable abbrev Qdw:Stmt:=top 36
noncomputable def N36:List Str:=["text","size"]
noncomputable abbrev Qdv:Stmt:=top 37
noncomputable def N37:List Str:=["sign"]
noncomputable abbrev Qdu:Stmt:=top 38
noncomputable def N38:List Str:=["sign","keeper"]
noncomputable abbrev Qdt:Stmt:=top 39
noncomputable def N39:List Str:=["sign","middle","last"]
noncomputable abbrev Qds:Stmt:=top 40
noncomputable def N40:List Str:=["sign","first","way","second"]
noncomputable abbrev Qdr:Stmt:=top 42
noncomputable def N41:List Str:=["_law_found","_law_due","_law_one","_law_other"]
noncomputable abbrev Qdq:Stmt:=top 43
noncomputable def N42:List Str:=["_law_cell","_law_number","_law_side"]
noncomputable abbrev Qdp:Stmt:=top 44
noncomputable def N43:List Str:=["_law_one"]
noncomputable abbrev Qdo:Stmt:=top 45
noncomputable def N44:List Str:=["_law_one","_law_lift","_law_ahead","_law_parents"]
noncomputable abbrev Qdn:Stmt:=top 46
noncomputable def N45:List Str:=["_law_one"]
noncomputable abbrev Qdm:Stmt:=top 47
noncomputable def N46:List Str:=["_law_one"]
noncomputable abbrev Qdl:Stmt:=top 48
noncomputable def N47:List Str:=["_law_cell","_law_some"]
noncomputable abbrev Qdk:Stmt:=top 49
noncomputable def N48:List Str:=["_law_cell","_law_mark_here","_law_way","_law_at","_law_drawn","_law_k","_law_spot","_law_some"]
noncomputable abbrev Qdj:Stmt:=top 50
noncomputable def N49:List Str:=["_law_found","_law_one"]
noncomputable abbrev Qdi:Stmt:=top 51
noncomputable def N50:List Str:=["_law_thing_here","_law_error","e"]
noncomputable abbrev QcZ:Stmt:=top 52
noncomputable def N51:List Str:=["_law_script","_law_known","_law_k","_law_cell","_law_thing_here","_law_found","_law_due"]
noncomputable def Qnw:List (Nat×Df):=[]
noncomputable def Qnv:List Str:=[]
noncomputable def Ql9:List Str:=["_law_thing_here"]
noncomputable def Qju:List Nat:=[11]
noncomputable def Qnu:List (Nat×Nat):=[(11,11),(11,10)]
noncomputable def b0:List S:=[(.ret (.lst []))]
noncomputable def b1:List S:=[(.ret (.lst []))]
noncomputable def b2:List S:=[(.fld (.var 0) 0 (.var 1))]
noncomputable def b3:List S:=[(.ret (.c (.int 1 0)))]
noncomputable def b4:List S:=[(.ret (.lst [(.tup [(.c (.str [110,101,119])),(.tup [(.c (.int 0 0))]),(.fld (.var 0) 0),(.c (.int 0 0))])]))]
noncomputable def b5:List S:=[(.ret (.tab 1 (.fld (.var 0) 0)))]
noncomputable def b6:List S:=[(.ret (.c (.int 1 0)))]
noncomputable def b7:List S:=[(.ret (.lst [(.tup [(.c (.str [115,97,109,101])),(.c (.int 0 0))])]))]
noncomputable def b8:List S:=[(.ret (.c (.str [115])))]
noncomputable def b9:List S:=[(.ret (.c (.int 0 0)))]
noncomputable def b10:List S:=[(.ret (.lst [(.tup [(.c (.str [110,101,119])),(.tup []),(.c (.int 0 0)),(.c (.int 0 0))])]))]
noncomputable def b11:List S:=[(.ret (.c (.str [111])))]
noncomputable def b12:List S:=[(.fld (.var 0) 1 (.var 1)),(.fld (.var 0) 2 (.var 2)),(.fld (.var 0) 0 (.var 3))]
noncomputable def b13:List S:=[(.ret (.fld (.var 0) 1))]
noncomputable def b14:List S:=[(.ite (.cmp .Eq (.fld (.var 0) 2) (.c (.str [114]))) [(.set 1 (.tupR [(.op .Sub (.fld (.var 0) 1) (.c (.int 1 0))),(.neg (.c (.int 1 0))),(.neg (.c (.int 1 0)))]))] [(.set 1 (.tupR [(.fld (.var 0) 1)]))]),(.ret (.lst [(.tup [(.c (.str [110,101,119])),(.var 1),(.fld (.var 0) 0),(.c (.int 0 0))])]))]
noncomputable def b15:List S:=[(.ret (.op .Add (.op .Add (.tab 1 (.fld (.var 0) 0)) (.bi .str [(.fld (.var 0) 1)])) (.fld (.var 0) 2)))]
noncomputable def b16:List S:=[(.fld (.var 0) 1 (.var 1)),(.fld (.var 0) 0 (.var 2))]
noncomputable def b17:List S:=[(.ret (.c (.int 1 0)))]
noncomputable def b18:List S:=[(.ret (.comp (.rng (.fld (.var 0) 1)) false none (.tup [(.c (.str [110,101,119])),(.tup [(.c (.int 0 0))]),(.ife (.cmp .Eq (.op .Mod (.var 1) (.c (.int 2 0))) (.c (.int 0 0))) (.fld (.var 0) 0) (.neg (.fld (.var 0) 0))),(.c (.int 0 0))])))]
noncomputable def b19:List S:=[(.ret (.op .Add (.op .Add (.tab 1 (.fld (.var 0) 0)) (.c (.str [120]))) (.bi .str [(.fld (.var 0) 1)])))]
noncomputable def b20:List S:=[(.fld (.var 0) 3 (.var 1)),(.fld (.var 0) 4 (.var 2)),(.fld (.var 0) 2 (.var 3)),(.fld (.var 0) 0 (.var 4))]
noncomputable def b21:List S:=[(.ret (.op .Add (.fld (.var 0) 3) (.fld (.var 0) 4)))]
noncomputable def b22:List S:=[(.set 1 (.ife (.cmp .Eq (.fld (.var 0) 2) (.c (.str [102]))) (.c (.int 1 0)) (.neg (.c (.int 1 0))))),(.set 2 (.comp (.rng2 (.fld (.var 0) 3) (.op .Add (.fld (.var 0) 3) (.fld (.var 0) 4))) false none (.tup [(.c (.str [110,101,119])),(.tup [(.var 4)]),(.fld (.var 0) 0),(.neg (.var 1))]))),(.set 3 (.comp (.rng (.fld (.var 0) 3)) false none (.tup [(.c (.str [110,101,119])),(.tup [(.var 4)]),(.fld (.var 0) 0),(.var 1)]))),(.ret (.op .Add (.var 2) (.var 3)))]
noncomputable def b23:List S:=[(.ret (.op .Add (.op .Add (.op .Add (.tab 2 (.fld (.var 0) 0)) (.bi .str [(.fld (.var 0) 3)])) (.fld (.var 0) 2)) (.bi .str [(.fld (.var 0) 4)])))]
noncomputable def b24:List S:=[(.ret (.c (.int 1 0)))]
noncomputable def b25:List S:=[(.ret (.lst [(.tup [(.c (.int 0 0)),(.c (.str [111,102,102]))])]))]
noncomputable def b26:List S:=[(.ret (.c (.str [98])))]
noncomputable def b27:List S:=[(.fld (.var 0) 5 (.var 1))]
noncomputable def b28:List S:=[(.ret (.c (.int 1 0)))]
noncomputable def b29:List S:=[(.ret (.lst [(.tup [(.c (.int 0 0)),(.fld (.var 0) 5)])]))]
noncomputable def b30:List S:=[(.ret (.op .Add (.c (.str [104])) (.fld (.var 0) 5)))]
noncomputable def b31:List S:=[(.fld (.var 0) 5 (.var 1))]
noncomputable def b32:List S:=[(.ret (.c (.int 0 0)))]
noncomputable def b33:List S:=[(.ret (.lst [(.tup [(.c (.str [102,114,111,109])),(.fld (.var 0) 5)])]))]
noncomputable def b34:List S:=[(.ret (.op .Add (.c (.str [102])) (.fld (.var 0) 5)))]
noncomputable def b35:List S:=[(.set 1 (.ife (.isi (.var 0) .str) (.call 36 [(.var 0)]) (.c .non))),(.ite (.cmp .Is (.var 1) (.c .non)) [(.rse 11 [(.c (.str [110,111,32,115,116,105,116,99,104,32,104,97,115,32,116,104,105,115,32,109,97,114,107]))])] []),(.ret (.var 1))]
noncomputable def b36:List S:=[(.set 1 (.bi .len [(.var 0)])),(.ite (.cmp .Eq (.var 1) (.c (.int 1 0))) [(.ret (.call 37 [(.var 0)]))] []),(.ite (.cmp .Eq (.var 1) (.c (.int 2 0))) [(.ret (.call 38 [(.ix (.var 0) (.c (.int 0 0))),(.ix (.var 0) (.c (.int 1 0)))]))] []),(.ite (.cmp .Eq (.var 1) (.c (.int 3 0))) [(.ret (.call 39 [(.ix (.var 0) (.c (.int 0 0))),(.ix (.var 0) (.c (.int 1 0))),(.ix (.var 0) (.c (.int 2 0)))]))] []),(.ite (.cmp .Eq (.var 1) (.c (.int 4 0))) [(.ret (.call 40 [(.ix (.var 0) (.c (.int 0 0))),(.ix (.var 0) (.c (.int 1 0))),(.ix (.var 0) (.c (.int 2 0))),(.ix (.var 0) (.c (.int 3 0)))]))] []),(.ret (.c .non))]
noncomputable def b37:List S:=[(.ite (.cmp .In (.var 0) (.con 3)) [(.ret (.make 1 [(.tab 3 (.var 0))]))] []),(.ite (.cmp .Eq (.var 0) (.c (.str [115]))) [(.ret (.make 2 []))] []),(.ite (.cmp .Eq (.var 0) (.c (.str [111]))) [(.ret (.make 3 []))] []),(.ite (.cmp .Eq (.var 0) (.c (.str [98]))) [(.ret (.make 7 []))] []),(.ret (.c .non))]
noncomputable def b38:List S:=[(.ite (.cmp .NotIn (.var 1) (.con 0)) [(.ret (.c .non))] []),(.ite (.cmp .Eq (.var 0) (.c (.str [104]))) [(.ret (.make 8 [(.var 1)]))] []),(.ite (.cmp .Eq (.var 0) (.c (.str [102]))) [(.ret (.make 9 [(.var 1)]))] []),(.ret (.c .non))]
noncomputable def b39:List S:=[(.ite (.cmp .NotIn (.var 0) (.con 3)) [(.ret (.c .non))] []),(.ite (.and (.cmp .Eq (.var 1) (.c (.str [120]))) (.cmp .In (.var 2) (.con 7))) [(.ret (.make 5 [(.tab 7 (.var 2)),(.tab 3 (.var 0))]))] []),(.ite (.and (.cmp .In (.var 1) (.con 7)) (.cmp .In (.var 2) (.con 5))) [(.ret (.make 4 [(.tab 7 (.var 1)),(.var 2),(.tab 3 (.var 0))]))] []),(.ret (.c .non))]
noncomputable def b40:List S:=[(.ite (.and (.cmp .In (.var 0) (.con 4)) (.and (.cmp .In (.var 1) (.con 8)) (.and (.cmp .In (.var 2) (.con 6)) (.cmp .In (.var 3) (.con 8))))) [(.ret (.make 6 [(.tab 8 (.var 1)),(.tab 8 (.var 3)),(.var 2),(.tab 4 (.var 0))]))] []),(.ret (.c .non))]
noncomputable def b41:List S:=[(.ite (.isi (.var 1) .str) [(.ret (.and (.isi (.var 0) .str) (.cmp .Eq (.var 0) (.var 1))))] []),(.ite (.isi (.var 1) .int) [(.ret (.and (.isi (.var 0) .int) (.and (.not (.isi (.var 0) .bool)) (.cmp .Eq (.var 0) (.var 1)))))] []),(.ite (.isi (.var 1) .tuple) [(.ite (.not (.isi (.var 0) .tuple)) [(.ret (.c (.bl false)))] [])] [(.ite (.not (.isi (.var 0) .list)) [(.ret (.c (.bl false)))] [])]),(.ite (.cmp .NotEq (.bi .len [(.var 0)]) (.bi .len [(.var 1)])) [(.ret (.c (.bl false)))] []),(.loop (.pair 2 3) (.zip (.var 0) (.var 1)) [(.ite (.not (.call 41 [(.var 2),(.var 3)])) [(.ret (.c (.bl false)))] [])]),(.ret (.c (.bl true)))]
noncomputable def b42:List S:=[(.set 1 (.op .Mod (.op .Mult (.var 0) (.c (.int 37 0))) (.c (.int 95 0)))),(.ite (.cmp .Lt (.var 1) (.c (.int 64 0))) [(.set 2 (.op .Sub (.c (.int 1 0)) (.op .Mult (.op .FloorDiv (.var 1) (.c (.int 32 0))) (.c (.int 2 0))))),(.ret (.tup [(.c (.str [99,114,111,115,115])),(.op .Add (.c (.int 1 0)) (.op .Mod (.var 1) (.c (.int 4 0)))),(.op .Add (.c (.int 1 0)) (.op .Mod (.op .FloorDiv (.var 1) (.c (.int 4 0))) (.c (.int 4 0)))),(.ix (.c (.str [102,98])) (.op .Mod (.op .FloorDiv (.var 1) (.c (.int 16 0))) (.c (.int 2 0)))),(.var 2)]))] []),(.ite (.cmp .Lt (.var 1) (.c (.int 76 0))) [(.set 2 (.op .Sub (.c (.int 1 0)) (.op .Mult (.op .FloorDiv (.op .Sub (.var 1) (.c (.int 64 0))) (.c (.int 6 0))) (.c (.int 2 0))))),(.ret (.tup [(.c (.str [108,101,97,110])),(.op .Add (.c (.int 2 0)) (.op .Mod (.op .Sub (.var 1) (.c (.int 64 0))) (.c (.int 3 0)))),(.ix (.c (.str [114,108])) (.op .Mod (.op .FloorDiv (.op .Sub (.var 1) (.c (.int 64 0))) (.c (.int 3 0))) (.c (.int 2 0)))),(.var 2)]))] []),(.ite (.cmp .Lt (.var 1) (.c (.int 82 0))) [(.ret (.tup [(.c (.str [103,114,111,119])),(.op .Add (.c (.int 2 0)) (.op .Mod (.op .Sub (.var 1) (.c (.int 76 0))) (.c (.int 3 0)))),(.op .Sub (.c (.int 1 0)) (.op .Mult (.op .FloorDiv (.op .Sub (.var 1) (.c (.int 76 0))) (.c (.int 3 0))) (.c (.int 2 0))))]))] []),(.ite (.cmp .Lt (.var 1) (.c (.int 84 0))) [(.ret (.tup [(.c (.str [112,108,97,105,110])),(.op .Sub (.c (.int 1 0)) (.op .Mult (.op .Sub (.var 1) (.c (.int 82 0))) (.c (.int 2 0))))]))] []),(.ite (.cmp .Lt (.var 1) (.c (.int 87 0))) [(.ret (.tup [(.ix (.lst [(.c (.str [115,108,105,112])),(.c (.str [111,118,101,114])),(.c (.str [111,102,102]))]) (.op .Sub (.var 1) (.c (.int 84 0))))]))] []),(.ret (.tup [(.ix (.lst [(.c (.str [107,101,101,112])),(.c (.str [98,114,105,110,103]))]) (.op .FloorDiv (.op .Sub (.var 1) (.c (.int 87 0))) (.c (.int 4 0)))),(.ix (.c (.str [119,120,121,122])) (.op .Mod (.op .Sub (.var 1) (.c (.int 87 0))) (.c (.int 4 0))))]))]
noncomputable def b43:List S:=[(.ite (.cmp .Eq (.ix (.var 0) (.c (.int 0 0))) (.c (.str [99,114,111,115,115]))) [(.ret (.op .Add (.op .Add (.op .Add (.ix (.lst [(.c (.str [113])),(.c (.str [])),(.c (.str [99]))]) (.op .Add (.ix (.var 0) (.c (.int 4 0))) (.c (.int 1 0)))) (.bi .str [(.ix (.var 0) (.c (.int 1 0)))])) (.ix (.var 0) (.c (.int 3 0)))) (.bi .str [(.ix (.var 0) (.c (.int 2 0)))])))] []),(.ite (.cmp .Eq (.ix (.var 0) (.c (.int 0 0))) (.c (.str [108,101,97,110]))) [(.ret (.op .Add (.op .Add (.ix (.lst [(.c (.str [112])),(.c (.str [])),(.c (.str [107]))]) (.op .Add (.ix (.var 0) (.c (.int 3 0))) (.c (.int 1 0)))) (.bi .str [(.ix (.var 0) (.c (.int 1 0)))])) (.ix (.var 0) (.c (.int 2 0)))))] []),(.ite (.cmp .Eq (.ix (.var 0) (.c (.int 0 0))) (.c (.str [103,114,111,119]))) [(.ret (.op .Add (.op .Add (.ix (.lst [(.c (.str [112])),(.c (.str [])),(.c (.str [107]))]) (.op .Add (.ix (.var 0) (.c (.int 2 0))) (.c (.int 1 0)))) (.c (.str [120]))) (.bi .str [(.ix (.var 0) (.c (.int 1 0)))])))] []),(.ite (.cmp .Eq (.ix (.var 0) (.c (.int 0 0))) (.c (.str [112,108,97,105,110]))) [(.ret (.ix (.lst [(.c (.str [112])),(.c (.str [])),(.c (.str [107]))]) (.op .Add (.ix (.var 0) (.c (.int 1 0))) (.c (.int 1 0)))))] []),(.ite (.cmp .Eq (.ix (.var 0) (.c (.int 0 0))) (.c (.str [107,101,101,112]))) [(.ret (.op .Add (.c (.str [104])) (.ix (.var 0) (.c (.int 1 0)))))] []),(.ite (.cmp .Eq (.ix (.var 0) (.c (.int 0 0))) (.c (.str [98,114,105,110,103]))) [(.ret (.op .Add (.c (.str [102])) (.ix (.var 0) (.c (.int 1 0)))))] []),(.ret (.dis [((.str [115,108,105,112]),(.str [115])),((.str [111,118,101,114]),(.str [111])),((.str [111,102,102]),(.str [98]))] (.ix (.var 0) (.c (.int 0 0)))))]
noncomputable def b44:List S:=[(.ite (.cmp .Eq (.ix (.var 0) (.c (.int 0 0))) (.c (.str [99,114,111,115,115]))) [(.set 1 (.ix (.lst [(.c (.int 1 0)),(.neg (.c (.int 1 0)))]) (.bi .int [(.cmp .Eq (.ix (.var 0) (.c (.int 3 0))) (.c (.str [98])))]))),(.set 2 (.comp (.rng (.ix (.var 0) (.c (.int 2 0)))) false none (.tup [(.c (.str [110,101,119])),(.tup [(.op .Add (.ix (.var 0) (.c (.int 1 0))) (.var 4))]),(.ix (.var 0) (.c (.int 4 0))),(.op .Sub (.c (.int 0 0)) (.var 1))]))),(.ret (.op .Add (.var 2) (.comp (.rng (.ix (.var 0) (.c (.int 1 0)))) false none (.tup [(.c (.str [110,101,119])),(.tup [(.var 4)]),(.ix (.var 0) (.c (.int 4 0))),(.var 1)]))))] []),(.ite (.cmp .Eq (.ix (.var 0) (.c (.int 0 0))) (.c (.str [108,101,97,110]))) [(.set 3 (.comp (.rng (.ix (.var 0) (.c (.int 1 0)))) false none (.var 4))),(.ite (.cmp .Eq (.ix (.var 0) (.c (.int 2 0))) (.c (.str [114]))) [(.set 3 (.rev (.var 3)))] []),(.ret (.lst [(.tup [(.c (.str [110,101,119])),(.bi .tuple [(.var 3)]),(.ix (.var 0) (.c (.int 3 0))),(.c (.int 0 0))])]))] []),(.ite (.cmp .Eq (.ix (.var 0) (.c (.int 0 0))) (.c (.str [103,114,111,119]))) [(.ret (.comp (.rng (.ix (.var 0) (.c (.int 1 0)))) false none (.tup [(.c (.str [110,101,119])),(.tup [(.c (.int 0 0))]),(.ix (.lst [(.ix (.var 0) (.c (.int 2 0))),(.op .Sub (.c (.int 0 0)) (.ix (.var 0) (.c (.int 2 0))))]) (.op .Mod (.var 4) (.c (.int 2 0)))),(.c (.int 0 0))])))] []),(.ite (.cmp .Eq (.ix (.var 0) (.c (.int 0 0))) (.c (.str [112,108,97,105,110]))) [(.ret (.lst [(.tup [(.c (.str [110,101,119])),(.tup [(.c (.int 0 0))]),(.ix (.var 0) (.c (.int 1 0))),(.c (.int 0 0))])]))] []),(.ite (.cmp .Eq (.ix (.var 0) (.c (.int 0 0))) (.c (.str [115,108,105,112]))) [(.ret (.lst [(.tup [(.c (.str [115,97,109,101])),(.c (.int 0 0))])]))] []),(.ite (.cmp .Eq (.ix (.var 0) (.c (.int 0 0))) (.c (.str [111,118,101,114]))) [(.ret (.lst [(.tup [(.c (.str [110,101,119])),(.tup []),(.c (.int 0 0)),(.c (.int 0 0))])]))] []),(.ite (.cmp .Eq (.ix (.var 0) (.c (.int 0 0))) (.c (.str [98,114,105,110,103]))) [(.ret (.lst [(.tup [(.c (.str [102,114,111,109])),(.ix (.var 0) (.c (.int 1 0)))])]))] []),(.ret (.lst []))]
noncomputable def b45:List S:=[(.ite (.cmp .Eq (.ix (.var 0) (.c (.int 0 0))) (.c (.str [111,102,102]))) [(.ret (.lst [(.tup [(.c (.int 0 0)),(.c (.str [111,102,102]))])]))] []),(.ite (.cmp .Eq (.ix (.var 0) (.c (.int 0 0))) (.c (.str [107,101,101,112]))) [(.ret (.lst [(.tup [(.c (.int 0 0)),(.ix (.var 0) (.c (.int 1 0)))])]))] []),(.ret (.lst []))]
noncomputable def b46:List S:=[(.ite (.cmp .Eq (.ix (.var 0) (.c (.int 0 0))) (.c (.str [99,114,111,115,115]))) [(.ret (.op .Add (.ix (.var 0) (.c (.int 1 0))) (.ix (.var 0) (.c (.int 2 0)))))] []),(.ite (.cmp .Eq (.ix (.var 0) (.c (.int 0 0))) (.c (.str [108,101,97,110]))) [(.ret (.ix (.var 0) (.c (.int 1 0))))] []),(.ret (.bi .int [(.cmp .NotIn (.ix (.var 0) (.c (.int 0 0))) (.tup [(.c (.str [111,118,101,114])),(.c (.str [98,114,105,110,103]))]))]))]
noncomputable def b47:List S:=[(.set 1 (.c (.str [32,33,34,35,36,38,39,40,41,42,43,44,45,46,47,48,49,50,51,52,53,54,55,56,57,58,59,60,61,62,63,64,65,66,67,68,69,70,71,72,73,74,75,76,77,78,79,80,81,82,83,84,85,86,87,88,89,90,91,92,93,94,95,96]))),(.set 1 (.op .Add (.var 1) (.c (.str [97,98,99,100,101,102,103,104,105,106,107,108,109,110,111,112,113,114,115,116,117,118,119,120,121,122,123,124,125,126,10,9])))),(.ret (.ix (.var 1) (.op .Mod (.var 0) (.c (.int 96 0)))))]
noncomputable def b48:List S:=[(.set 2 (.op .Mod (.var 0) (.c (.int 8 0)))),(.set 3 (.op .Mod (.op .Add (.op .FloorDiv (.var 0) (.c (.int 8 0))) (.op .FloorDiv (.var 0) (.c (.int 7680 0)))) (.op .Add (.bi .len [(.var 1)]) (.c (.int 1 0))))),(.ite (.cmp .Eq (.var 2) (.c (.int 1 0))) [(.ret (.op .Add (.sl (.var 1) none (some (.var 3))) (.sl (.var 1) (some (.op .Add (.var 3) (.c (.int 1 0)))) none)))] []),(.ite (.cmp .Eq (.var 2) (.c (.int 2 0))) [(.ret (.op .Add (.op .Add (.sl (.var 1) none (some (.var 3))) (.call 47 [(.op .FloorDiv (.var 0) (.c (.int 40 0)))])) (.sl (.var 1) (some (.op .Add (.var 3) (.c (.int 1 0)))) none)))] []),(.ite (.cmp .Eq (.var 2) (.c (.int 3 0))) [(.ret (.op .Add (.op .Add (.sl (.var 1) none (some (.var 3))) (.call 47 [(.op .FloorDiv (.var 0) (.c (.int 40 0)))])) (.sl (.var 1) (some (.var 3)) none)))] []),(.ite (.cmp .Eq (.var 2) (.c (.int 4 0))) [(.set 4 (.c (.str []))),(.loop (.name 5) (.rng (.op .Mod (.op .FloorDiv (.var 0) (.c (.int 8 0))) (.c (.int 6 0)))) [(.set 6 (.op .Add (.op .Add (.op .FloorDiv (.var 0) (.c (.int 48 0))) (.op .Mult (.var 5) (.var 5))) (.op .Mult (.op .FloorDiv (.var 0) (.c (.int 960 0))) (.var 5)))),(.set 4 (.op .Add (.var 4) (.ix (.c (.str [107,112,115,111,98,104,102,99,113,120,119,121,122,114,108,48,49,50,51,52])) (.op .Mod (.var 6) (.c (.int 20 0))))))]),(.ret (.var 4))] []),(.ite (.cmp .Eq (.var 2) (.c (.int 5 0))) [(.set 7 (.lst [(.c .non),(.c (.bl true)),(.c (.int 7 0)),(.lst [(.var 1)]),(.tup [(.var 1)]),.dnew,(.c (.str [])),(.make 2 [])])),(.set 7 (.op .Add (.var 7) (.lst [(.op .Add (.var 1) (.var 1)),(.op .Add (.c (.str [32])) (.var 1)),(.op .Add (.var 1) (.c (.str [32])))]))),(.ret (.ix (.var 7) (.op .Mod (.op .FloorDiv (.var 0) (.c (.int 8 0))) (.c (.int 11 0)))))] []),(.ret (.var 1))]
noncomputable def b49:List S:=[(.ite (.cmp .Eq (.ix (.var 1) (.c (.int 0 0))) (.c (.str [99,114,111,115,115]))) [(.ret (.isi (.var 0) (.cls 6)))] []),(.ite (.cmp .Eq (.ix (.var 1) (.c (.int 0 0))) (.c (.str [108,101,97,110]))) [(.ret (.isi (.var 0) (.cls 4)))] []),(.ite (.cmp .Eq (.ix (.var 1) (.c (.int 0 0))) (.c (.str [103,114,111,119]))) [(.ret (.isi (.var 0) (.cls 5)))] []),(.ite (.cmp .Eq (.ix (.var 1) (.c (.int 0 0))) (.c (.str [112,108,97,105,110]))) [(.ret (.isi (.var 0) (.cls 1)))] []),(.ite (.cmp .Eq (.ix (.var 1) (.c (.int 0 0))) (.c (.str [107,101,101,112]))) [(.ret (.isi (.var 0) (.cls 8)))] []),(.ite (.cmp .Eq (.ix (.var 1) (.c (.int 0 0))) (.c (.str [98,114,105,110,103]))) [(.ret (.isi (.var 0) (.cls 9)))] []),(.ite (.cmp .Eq (.ix (.var 1) (.c (.int 0 0))) (.c (.str [115,108,105,112]))) [(.ret (.isi (.var 0) (.cls 2)))] []),(.ite (.cmp .Eq (.ix (.var 1) (.c (.int 0 0))) (.c (.str [111,118,101,114]))) [(.ret (.isi (.var 0) (.cls 3)))] []),(.ret (.isi (.var 0) (.cls 7)))]
noncomputable def b50:List S:=[(.set 1 (.c .non)),(.tryE 1 2 35 [(.var 0)] 10),(.ite (.or (.not (.isi (.var 1) (.cls 11))) (.not (.isi (.var 1) .vale))) [(.ret (.c (.bl false)))] []),(.ite (.or (.isi (.var 1) (.cls 12)) (.or (.isi (.var 1) (.cls 13)) (.isi (.var 1) (.cls 14)))) [(.ret (.c (.bl false)))] []),(.ite (.or (.isi (.var 1) (.cls 15)) (.or (.isi (.var 1) (.cls 16)) (.isi (.var 1) (.cls 17)))) [(.ret (.c (.bl false)))] []),(.ite (.or (.isi (.var 1) (.cls 18)) (.or (.isi (.var 1) (.cls 19)) (.isi (.var 1) (.cls 20)))) [(.ret (.c (.bl false)))] []),(.ret (.not (.isi (.var 1) (.cls 21))))]
noncomputable def b51:List S:=[(.set 1 .dnew),(.loop (.name 2) (.rng (.c (.int 95 0))) [(.put (.var 1) (.call 43 [(.call 42 [(.var 2)])]) (.call 42 [(.var 2)]))]),(.loopD 3 (.sl (.var 0) none (some (.c (.int 42 0)))) [(.set 4 (.zap (.call 48 [(.var 3),(.call 43 [(.call 42 [(.op .Add (.var 3) (.op .FloorDiv (.var 3) (.c (.int 8 0))))])])]))),(.ite (.or (.not (.isi (.var 4) .str)) (.cmp .NotIn (.var 4) (.var 1))) [(.ite (.not (.call 50 [(.var 4)])) [(.ret (.c (.bl false)))] [])] [(.set 5 (.call 35 [(.var 4)])),(.set 6 (.ix (.var 1) (.var 4))),(.ite (.not (.call 49 [(.var 5),(.var 6)])) [(.ret (.c (.bl false)))] []),(.ite (.or (.not (.call 41 [(.meth 4 (.var 5) []),(.var 4)])) (.not (.call 41 [(.meth 0 (.var 5) []),(.call 44 [(.var 6)])]))) [(.ret (.c (.bl false)))] []),(.ite (.or (.not (.call 41 [(.meth 1 (.var 5) []),(.call 45 [(.var 6)])])) (.not (.call 41 [(.meth 2 (.var 5) []),(.call 46 [(.var 6)])]))) [(.ret (.c (.bl false)))] [])])]),(.ret (.c (.bl true)))]
noncomputable def fnL:List Fn:=[⟨"ties","Stitch.ties",st0,["self"],N0,1,1,false,b0⟩,
 ⟨"ends","Stitch.ends",st1,["self"],N1,1,1,false,b1⟩,
 ⟨"__init__","Plain.__init__",st2,["self","side"],N2,2,2,false,b2⟩,
 ⟨"takes","Plain.takes",st3,["self"],N3,1,1,false,b3⟩,
 ⟨"ties","Plain.ties",st4,["self"],N4,1,1,false,b4⟩,
 ⟨"mark","Plain.mark",st5,["self"],N5,1,1,false,b5⟩,
 ⟨"takes","Slip.takes",st6,["self"],N6,1,1,false,b6⟩,
 ⟨"ties","Slip.ties",st7,["self"],N7,1,1,false,b7⟩,
 ⟨"mark","Slip.mark",st8,["self"],N8,1,1,false,b8⟩,
 ⟨"takes","Over.takes",st9,["self"],N9,1,1,false,b9⟩,
 ⟨"ties","Over.ties",QdW,["self"],N10,1,1,false,b10⟩,
 ⟨"mark","Over.mark",QdV,["self"],N11,1,1,false,b11⟩,
 ⟨"__init__","Lean.__init__",QdU,["self","many","way","side"],N12,4,4,false,b12⟩,
 ⟨"takes","Lean.takes",QdT,["self"],N13,1,1,false,b13⟩,
 ⟨"ties","Lean.ties",QdS,["self"],N14,1,2,false,b14⟩,
 ⟨"mark","Lean.mark",QdR,["self"],N15,1,1,false,b15⟩,
 ⟨"__init__","Grow.__init__",QdQ,["self","many","side"],N16,3,3,false,b16⟩,
 ⟨"takes","Grow.takes",QdP,["self"],N17,1,1,false,b17⟩,
 ⟨"ties","Grow.ties",QdO,["self"],N18,1,1,false,b18⟩,
 ⟨"mark","Grow.mark",QdN,["self"],N19,1,1,false,b19⟩,
 ⟨"__init__","Cross.__init__",QdM,["self","first","second","way","side"],N20,5,5,false,b20⟩,
 ⟨"takes","Cross.takes",QdL,["self"],N21,1,1,false,b21⟩,
 ⟨"ties","Cross.ties",QdK,["self"],N22,1,4,false,b22⟩,
 ⟨"mark","Cross.mark",QdJ,["self"],N23,1,1,false,b23⟩,
 ⟨"takes","Off.takes",QdI,["self"],N24,1,1,false,b24⟩,
 ⟨"ends","Off.ends",QdH,["self"],N25,1,1,false,b25⟩,
 ⟨"mark","Off.mark",QdG,["self"],N26,1,1,false,b26⟩,
 ⟨"__init__","Keep.__init__",QdF,["self","keeper"],N27,2,2,false,b27⟩,
 ⟨"takes","Keep.takes",QdE,["self"],N28,1,1,false,b28⟩,
 ⟨"ends","Keep.ends",QdD,["self"],N29,1,1,false,b29⟩,
 ⟨"mark","Keep.mark",QdC,["self"],N30,1,1,false,b30⟩,
 ⟨"__init__","Fetch.__init__",QdB,["self","keeper"],N31,2,2,false,b31⟩,
 ⟨"takes","Fetch.takes",QdA,["self"],N32,1,1,false,b32⟩,
 ⟨"ties","Fetch.ties",Qdz,["self"],N33,1,1,false,b33⟩,
 ⟨"mark","Fetch.mark",Qdy,["self"],N34,1,1,false,b34⟩,
 ⟨"stitch","stitch",Qdx,["mark"],N35,1,2,false,b35⟩,
 ⟨"stitch_of_text","stitch_of_text",Qdw,["text"],N36,1,2,false,b36⟩,
 ⟨"bare_stitch","bare_stitch",Qdv,["sign"],N37,1,1,false,b37⟩,
 ⟨"keeper_stitch","keeper_stitch",Qdu,["sign","keeper"],N38,2,2,false,b38⟩,
 ⟨"sided_stitch","sided_stitch",Qdt,["sign","middle","last"],N39,3,3,false,b39⟩,
 ⟨"crossing","crossing",Qds,["sign","first","way","second"],N40,4,4,false,b40⟩,
 ⟨"_law_same","_law_same",Qdr,["_law_found","_law_due"],N41,2,4,false,b41⟩,
 ⟨"_law_told","_law_told",Qdq,["_law_cell"],N42,1,3,false,b42⟩,
 ⟨"_law_mark","_law_mark",Qdp,["_law_one"],N43,1,1,false,b43⟩,
 ⟨"_law_ties","_law_ties",Qdo,["_law_one"],N44,1,4,false,b44⟩,
 ⟨"_law_ends","_law_ends",Qdn,["_law_one"],N45,1,1,false,b45⟩,
 ⟨"_law_takes","_law_takes",Qdm,["_law_one"],N46,1,1,false,b46⟩,
 ⟨"_law_sign_by","_law_sign_by",Qdl,["_law_cell"],N47,1,2,false,b47⟩,
 ⟨"_law_thing","_law_thing",Qdk,["_law_cell","_law_mark_here"],N48,2,8,false,b48⟩,
 ⟨"_law_of_class","_law_of_class",Qdj,["_law_found","_law_one"],N49,2,2,false,b49⟩,
 ⟨"_law_refused","_law_refused",Qdi,["_law_thing_here"],N50,1,3,false,b50⟩,
 ⟨"law","law",QcZ,["_law_script"],N51,1,7,true,b51⟩]
noncomputable def tbX(s:List U):Tbl:=⟨fnL,Qnz,Z1,fldN,mthN,s,isiL,Qnw,Qnv,Ql9,true,Qju,Qnu,fun _ _ _=>none⟩
noncomputable def tb(s:List U):Tbl:={ tbX s with xf:=Qau (tbX s) 4 }
noncomputable abbrev so(x:String):Str:=Str.ofString x
noncomputable abbrev rf(a:Addr):Value:=.ref a
noncomputable abbrev sv(x:String)(n:Nat):Value:=.str (Str.ofString x) n
noncomputable abbrev dk(P:Params)(x:String)(n:Nat)(v:Value):DictEntry:=DictEntry.mk (PyData.keyHash P (Str.ofString x)) (.str (Str.ofString x) n) v
noncomputable abbrev tu(xs:Array Value)(n:Nat):Obj:=Obj.mk (.type "tuple") none (Data.seq xs n) #[]
noncomputable abbrev ob(c:String)(d:Data):Obj:=Obj.mk (.type c) none d #[]
noncomputable abbrev en(P:Params)(x:Str)(k v:Value):DictEntry:=DictEntry.mk (PyData.keyHash P x) k v
noncomputable abbrev de(P:Params)(x:Str)(n:Nat)(v:Value):DictEntry:=DictEntry.mk (PyData.keyHash P x) (.str x n) v
noncomputable abbrev fo(x q:String)(s:Stmt)(d:Value)(m:String)(n c:Nat):Obj:=⟨.type "function",none,.func (W.fnOf (so x) (so q) (Qd s) (Qc s) (Qa s) d .none .none (sv m n) none (rf c) .none),#[]⟩
noncomputable abbrev z0:Value:=.int 0 0
noncomputable abbrev i0(n:Int):Value:=.int n 0
noncomputable abbrev bF:Value:=.bool false
noncomputable abbrev bT:Value:=.bool true
noncomputable abbrev sr(a:Addr):Option Value:=some (.ref a)
noncomputable abbrev sc(n:Nat):Value:=.str (Str.ofString "/claim/cut.py") n
noncomputable abbrev oc(d:Array Value):Obj:=Obj.mk (.type "code") none (Data.fields d) #[]
noncomputable abbrev dm(P:Params)(n:Nat)(x:String)(m:Nat):DictEntry:=dk P "__module__" n (sv x m)
noncomputable abbrev dq(P:Params)(n:Nat)(x:String)(m:Nat):DictEntry:=dk P "__qualname__" n (sv x m)
noncomputable abbrev dd(P:Params)(n:Nat):DictEntry:=dk P "__doc__" n .none
noncomputable abbrev dl(P:Params)(n:Nat)(x:Int)(m:Nat):DictEntry:=dk P "__firstlineno__" n (.int x m)
noncomputable abbrev ds(P:Params)(n:Nat)(a:Addr):DictEntry:=dk P "__static_attributes__" n (.ref a)
noncomputable abbrev dR(P:Params)(x:String)(n:Nat)(a:Addr):DictEntry:=dk P x n (.ref a)
noncomputable abbrev hp:Program:=PySem.Challenge.pw_stitchroom_k05_marks_read
noncomputable abbrev hr:W.RowW:=(PySem.Challenge.rw_stitchroom_k05_marks_read).row.toRowW
noncomputable def hB:Iv.BootT:=⟨fun P=>(.node (W.boot_o_0 P) (.node (W.boot_o_1 P) (.node (W.boot_o_3 P) (.node (W.boot_o_7 P) .nil .nil) .nil) (.node (W.boot_o_5 P) (.node (W.boot_o_9 P) .nil .nil) .nil)) (.node (W.boot_o_2 P) (.node (W.boot_o_4 P) (.node (W.boot_o_8 P) .nil .nil) .nil) (.node (W.boot_o_6 P) (.node (W.boot_o_10 P) .nil .nil) .nil))),11,{}⟩
noncomputable def hq:Program:=W.view hp [0,2,3,4,5,6,7,8,9,10,11,12,13,15,16,17,18,19,20,21,22,23,24,25,26,27,29,30,31,32,33,34,35,36,37,38,39,40,42,43,44,45,46,47,48,49,50,51,52]
noncomputable abbrev hlo:List Str:=["NoSum","SIDE_SIGNS","CROSS_SIGNS","SIDES","CROSS_SIDES","MANY","CROSSED"]
noncomputable def K:Params->W.Frag:=fun P =>
 (nat_lit 2,(Obj.mk .none none (Data.dict #[] 0) #[]))::
 (nat_lit 3,(ob "dict" (Data.dict #[(dk P "__name__" 165 (sv "law_stitchroom_k05_marks_read" 1166)),(dd P 166),(dk P "__package__" 167 .none),(dk P "__loader__" 168 (.builtin "__main__.__loader__#opaque")),(dk P "__spec__" 169 .none),(dR P "__annotations__" 170 6),(dR P "__builtins__" 171 4),(dk P "__file__" 173 (sc 172)),(dk P "__cached__" 174 .none),(dR P "_wall" 193 21),(dR P "StitchError" 213 31),(dR P "NoStitch" 229 44),(dR P "NoSum" 254 64),(dR P "NoPattern" 270 76),(dR P "TooMany" 286 88),(dR P "Miscount" 319 107),(dR P "NotLying" 335 119),(dR P "NoChart" 351 131),(dR P "Tangle" 376 150),(dR P "NoRow" 392 162),(dR P "NoName" 408 174),(dR P "NoPlace" 424 186),(dR P "KEEPERS" 431 189),(dR P "SIDE_SIGNS" 439 190),(dR P "CROSS_SIGNS" 447 191),(dR P "Stitch" 481 215),(dR P "Plain" 548 278),(dR P "Slip" 606 332),(dR P "Over" 664 386),(dR P "Lean" 736 447),(dR P "Grow" 804 506),(dR P "Cross" 876 565),(dR P "Off" 934 619),(dR P "Keep" 1001 680),(dR P "Fetch" 1068 741),(dR P "SIDES" 1078 744),(dR P "CROSS_SIDES" 1086 745),(dR P "LEAN_WAYS" 1089 746),(dR P "CROSS_WAYS" 1092 747),(dR P "MANY" 1102 748),(dR P "CROSSED" 1115 749),(dR P "stitch" 1123 756),(dR P "stitch_of_text" 1131 763),(dR P "bare_stitch" 1138 770),(dR P "keeper_stitch" 1146 777),(dR P "sided_stitch" 1155 784),(dR P "crossing" 1165 791),(dR P "_law_same" 1177 798),(dR P "_law_told" 1186 805),(dR P "_law_mark" 1193 812),(dR P "_law_ties" 1199 817),(dR P "_law_ends" 1206 824),(dR P "_law_takes" 1213 831),(dR P "_law_sign_by" 1221 838),(dR P "_law_thing" 1235 845),(dR P "_law_of_class" 1243 852),(dR P "_law_refused" 1252 859),(dR P "law" 1265 866)] 58)))::
 (nat_lit 30,(ob "dict" (Data.dict #[(dm P 203 "stitchroom.errors" 194),(dl P 207 5 206),(ds P 208 29),(dR P "__weakref__" 210 32),(dd P 211)] 3)))::
 (nat_lit 31,(Obj.mk (.type "type") none (Data.cls (ClassData.mk (so "StitchError") [(.type "ValueError")] [(rf 31),(.type "ValueError"),(.type "Exception"),(.type "BaseException"),(.type "object")] 30 (so "StitchError") true [] [(rf 44),(rf 64),(rf 76),(rf 88),(rf 107),(rf 119),(rf 131),(rf 150),(rf 162),(rf 174),(rf 186)] false none false)) #[(sr 22),none,(some (sv "StitchError" 196)),(some (sv "StitchError" 204)),(some (.builtin "ValueError.__new__")),(some bT)]))::
 (nat_lit 32,(ob "getset_descriptor" (Data.fields #[(sv "__weakref__" 209),(rf 31),(.builtin "ExceptionGroup.__weakref__"),.none])))::
 (nat_lit 43,(ob "dict" (Data.dict #[(dm P 221 "stitchroom.errors" 194),(dl P 225 7 224),(ds P 226 42),(dd P 227)] 2)))::
 (nat_lit 44,(Obj.mk (.type "type") none (Data.cls (ClassData.mk (so "NoStitch") [(rf 31)] [(rf 44),(rf 31),(.type "ValueError"),(.type "Exception"),(.type "BaseException"),(.type "object")] 43 (so "NoStitch") true [] [] false none false)) #[(sr 35),none,(some (sv "NoStitch" 214)),(some (sv "NoStitch" 222)),(some (.builtin "ValueError.__new__")),(some bT)]))::
 (nat_lit 63,(ob "dict" (Data.dict #[(dm P 237 "stitchroom.errors" 194),(dl P 241 9 240),(dR P "__init__" 249 61),(ds P 251 62),(dd P 252)] 2)))::
 (nat_lit 64,(Obj.mk (.type "type") none (Data.cls (ClassData.mk (so "NoSum") [(rf 31)] [(rf 64),(rf 31),(.type "ValueError"),(.type "Exception"),(.type "BaseException"),(.type "object")] 63 (so "NoSum") true [] [] false none false)) #[(sr 47),none,(some (sv "NoSum" 230)),(some (sv "NoSum" 238)),(some (.builtin "ValueError.__new__")),(some bT)]))::
 (nat_lit 75,(ob "dict" (Data.dict #[(dm P 262 "stitchroom.errors" 194),(dl P 266 14 265),(ds P 267 74),(dd P 268)] 2)))::
 (nat_lit 76,(Obj.mk (.type "type") none (Data.cls (ClassData.mk (so "NoPattern") [(rf 31)] [(rf 76),(rf 31),(.type "ValueError"),(.type "Exception"),(.type "BaseException"),(.type "object")] 75 (so "NoPattern") true [] [] false none false)) #[(sr 67),none,(some (sv "NoPattern" 255)),(some (sv "NoPattern" 263)),(some (.builtin "ValueError.__new__")),(some bT)]))::
 (nat_lit 87,(ob "dict" (Data.dict #[(dm P 278 "stitchroom.errors" 194),(dl P 282 16 281),(ds P 283 86),(dd P 284)] 2)))::
 (nat_lit 88,(Obj.mk (.type "type") none (Data.cls (ClassData.mk (so "TooMany") [(rf 31)] [(rf 88),(rf 31),(.type "ValueError"),(.type "Exception"),(.type "BaseException"),(.type "object")] 87 (so "TooMany") true [] [] false none false)) #[(sr 79),none,(some (sv "TooMany" 271)),(some (sv "TooMany" 279)),(some (.builtin "ValueError.__new__")),(some bT)]))::
 (nat_lit 106,(ob "dict" (Data.dict #[(dm P 294 "stitchroom.errors" 194),(dl P 298 18 297),(dR P "__init__" 310 104),(ds P 316 105),(dd P 317)] 2)))::
 (nat_lit 107,(Obj.mk (.type "type") none (Data.cls (ClassData.mk (so "Miscount") [(rf 31)] [(rf 107),(rf 31),(.type "ValueError"),(.type "Exception"),(.type "BaseException"),(.type "object")] 106 (so "Miscount") true [] [] false none false)) #[(sr 91),none,(some (sv "Miscount" 287)),(some (sv "Miscount" 295)),(some (.builtin "ValueError.__new__")),(some bT)]))::
 (nat_lit 118,(ob "dict" (Data.dict #[(dm P 327 "stitchroom.errors" 194),(dl P 331 27 330),(ds P 332 117),(dd P 333)] 2)))::
 (nat_lit 119,(Obj.mk (.type "type") none (Data.cls (ClassData.mk (so "NotLying") [(rf 31)] [(rf 119),(rf 31),(.type "ValueError"),(.type "Exception"),(.type "BaseException"),(.type "object")] 118 (so "NotLying") true [] [] false none false)) #[(sr 110),none,(some (sv "NotLying" 320)),(some (sv "NotLying" 328)),(some (.builtin "ValueError.__new__")),(some bT)]))::
 (nat_lit 130,(ob "dict" (Data.dict #[(dm P 343 "stitchroom.errors" 194),(dl P 347 29 346),(ds P 348 129),(dd P 349)] 2)))::
 (nat_lit 131,(Obj.mk (.type "type") none (Data.cls (ClassData.mk (so "NoChart") [(rf 31)] [(rf 131),(rf 31),(.type "ValueError"),(.type "Exception"),(.type "BaseException"),(.type "object")] 130 (so "NoChart") true [] [] false none false)) #[(sr 122),none,(some (sv "NoChart" 336)),(some (sv "NoChart" 344)),(some (.builtin "ValueError.__new__")),(some bT)]))::
 (nat_lit 149,(ob "dict" (Data.dict #[(dm P 359 "stitchroom.errors" 194),(dl P 363 31 362),(dR P "__init__" 371 147),(ds P 373 148),(dd P 374)] 2)))::
 (nat_lit 150,(Obj.mk (.type "type") none (Data.cls (ClassData.mk (so "Tangle") [(rf 31)] [(rf 150),(rf 31),(.type "ValueError"),(.type "Exception"),(.type "BaseException"),(.type "object")] 149 (so "Tangle") true [] [] false none false)) #[(sr 134),none,(some (sv "Tangle" 352)),(some (sv "Tangle" 360)),(some (.builtin "ValueError.__new__")),(some bT)]))::
 (nat_lit 161,(ob "dict" (Data.dict #[(dm P 384 "stitchroom.errors" 194),(dl P 388 36 387),(ds P 389 160),(dd P 390)] 2)))::
 (nat_lit 162,(Obj.mk (.type "type") none (Data.cls (ClassData.mk (so "NoRow") [(rf 31)] [(rf 162),(rf 31),(.type "ValueError"),(.type "Exception"),(.type "BaseException"),(.type "object")] 161 (so "NoRow") true [] [] false none false)) #[(sr 153),none,(some (sv "NoRow" 377)),(some (sv "NoRow" 385)),(some (.builtin "ValueError.__new__")),(some bT)]))::
 (nat_lit 173,(ob "dict" (Data.dict #[(dm P 400 "stitchroom.errors" 194),(dl P 404 38 403),(ds P 405 172),(dd P 406)] 2)))::
 (nat_lit 174,(Obj.mk (.type "type") none (Data.cls (ClassData.mk (so "NoName") [(rf 31)] [(rf 174),(rf 31),(.type "ValueError"),(.type "Exception"),(.type "BaseException"),(.type "object")] 173 (so "NoName") true [] [] false none false)) #[(sr 165),none,(some (sv "NoName" 393)),(some (sv "NoName" 401)),(some (.builtin "ValueError.__new__")),(some bT)]))::
 (nat_lit 185,(ob "dict" (Data.dict #[(dm P 416 "stitchroom.errors" 194),(dl P 420 40 419),(ds P 421 184),(dd P 422)] 2)))::
 (nat_lit 186,(Obj.mk (.type "type") none (Data.cls (ClassData.mk (so "NoPlace") [(rf 31)] [(rf 186),(rf 31),(.type "ValueError"),(.type "Exception"),(.type "BaseException"),(.type "object")] 185 (so "NoPlace") true [] [] false none false)) #[(sr 177),none,(some (sv "NoPlace" 409)),(some (sv "NoPlace" 417)),(some (.builtin "ValueError.__new__")),(some bT)]))::
 (nat_lit 189,(tu #[(sv "w" 427),(sv "x" 428),(sv "y" 429),(sv "z" 430)] 0))::
 (nat_lit 190,(ob "dict" (Data.dict #[(DictEntry.mk 1 (.int 1 432) (sv "k" 433)),(DictEntry.mk (-2) (.int (-1) 435) (sv "p" 436))] 2)))::
 (nat_lit 191,(ob "dict" (Data.dict #[(DictEntry.mk 1 (.int 1 440) (sv "c" 441)),(DictEntry.mk (-2) (.int (-1) 443) (sv "q" 444))] 2)))::
 (nat_lit 204,(oc (#[(sv "ties" 460),(sv "Stitch.ties" 461),(sc 462),(i0 48),(i0 1),z0,z0,(i0 3),(rf 199),bT,(i0 181),(rf 200),.none,(rf 201),(rf 202),(rf 203),(i0 464),(i0 48),(sc 465)])))::
 (nat_lit 205,(fo "ties" "Stitch.ties" st0 .none "stitchroom.stitches" 425 204))::
 (nat_lit 211,(oc (#[(sv "ends" 467),(sv "Stitch.ends" 468),(sc 469),(i0 51),(i0 1),z0,z0,(i0 3),(rf 206),bT,(i0 181),(rf 207),.none,(rf 208),(rf 209),(rf 210),(i0 471),(i0 51),(sc 472)])))::
 (nat_lit 212,(fo "ends" "Stitch.ends" st1 .none "stitchroom.stitches" 425 211))::
 (nat_lit 214,(ob "dict" (Data.dict #[(dm P 455 "stitchroom.stitches" 425),(dl P 459 46 458),(dR P "ties" 466 205),(dR P "ends" 473 212),(ds P 474 213),(dR P "__dict__" 476 216),(dR P "__weakref__" 478 217),(dd P 479)] 4)))::
 (nat_lit 215,(Obj.mk (.type "type") none (Data.cls (ClassData.mk (so "Stitch") [(.type "object")] [(rf 215),(.type "object")] 214 (so "Stitch") true [] [(rf 278),(rf 332),(rf 386),(rf 447),(rf 506),(rf 565),(rf 619),(rf 680),(rf 741)] false none false)) #[none,none,(some (sv "Stitch" 448)),(some (sv "Stitch" 456)),(some (.builtin "object.__new__")),(some bT)]))::
 (nat_lit 216,(ob "getset_descriptor" (Data.fields #[(sv "__dict__" 475),(rf 215),(.builtin "function.__dict__"),(.builtin "function.__dict__#set")])))::
 (nat_lit 217,(ob "getset_descriptor" (Data.fields #[(sv "__weakref__" 477),(rf 215),(.builtin "ExceptionGroup.__weakref__"),.none])))::
 (nat_lit 232,(oc (#[(sv "__init__" 494),(sv "Plain.__init__" 495),(sc 496),(i0 55),(i0 2),z0,z0,(i0 3),(rf 227),bT,(i0 181),(rf 228),.none,(rf 229),(rf 230),(rf 231),(i0 499),(i0 55),(sc 500)])))::
 (nat_lit 233,(fo "__init__" "Plain.__init__" st2 .none "stitchroom.stitches" 425 232))::
 (nat_lit 239,(oc (#[(sv "takes" 502),(sv "Plain.takes" 503),(sc 504),(i0 58),(i0 1),z0,z0,(i0 3),(rf 234),bT,(i0 181),(rf 235),.none,(rf 236),(rf 237),(rf 238),(i0 506),(i0 58),(sc 507)])))::
 (nat_lit 240,(fo "takes" "Plain.takes" st3 .none "stitchroom.stitches" 425 239))::
 (nat_lit 253,(oc (#[(sv "ties" 516),(sv "Plain.ties" 517),(sc 518),(i0 64),(i0 1),z0,z0,(i0 3),(rf 248),bT,(i0 181),(rf 249),.none,(rf 250),(rf 251),(rf 252),(i0 520),(i0 64),(sc 521)])))::
 (nat_lit 254,(fo "ties" "Plain.ties" st4 .none "stitchroom.stitches" 425 253))::
 (nat_lit 260,(oc (#[(sv "mark" 523),(sv "Plain.mark" 524),(sc 525),(i0 67),(i0 1),z0,z0,(i0 3),(rf 255),bT,(i0 181),(rf 256),.none,(rf 257),(rf 258),(rf 259),(i0 527),(i0 67),(sc 528)])))::
 (nat_lit 261,(fo "mark" "Plain.mark" st5 .none "stitchroom.stitches" 425 260))::
 (nat_lit 277,(ob "dict" (Data.dict #[(dm P 489 "stitchroom.stitches" 425),(dl P 493 53 492),(dR P "__init__" 501 233),(dR P "takes" 508 240),(dR P "gives" 515 247),(dR P "ties" 522 254),(dR P "mark" 529 261),(dR P "mirrored" 536 268),(dR P "turned" 543 275),(ds P 545 276),(dd P 546)] 2)))::
 (nat_lit 278,(Obj.mk (.type "type") none (Data.cls (ClassData.mk (so "Plain") [(rf 215)] [(rf 278),(rf 215),(.type "object")] 277 (so "Plain") true [] [] false none false)) #[(sr 220),none,(some (sv "Plain" 482)),(some (sv "Plain" 490)),(some (.builtin "object.__new__")),(some bT)]))::
 (nat_lit 293,(oc (#[(sv "takes" 561),(sv "Slip.takes" 562),(sc 563),(i0 77),(i0 1),z0,z0,(i0 3),(rf 288),bT,(i0 181),(rf 289),.none,(rf 290),(rf 291),(rf 292),(i0 565),(i0 77),(sc 566)])))::
 (nat_lit 294,(fo "takes" "Slip.takes" st6 .none "stitchroom.stitches" 425 293))::
 (nat_lit 307,(oc (#[(sv "ties" 575),(sv "Slip.ties" 576),(sc 577),(i0 83),(i0 1),z0,z0,(i0 3),(rf 302),bT,(i0 181),(rf 303),.none,(rf 304),(rf 305),(rf 306),(i0 579),(i0 83),(sc 580)])))::
 (nat_lit 308,(fo "ties" "Slip.ties" st7 .none "stitchroom.stitches" 425 307))::
 (nat_lit 314,(oc (#[(sv "mark" 582),(sv "Slip.mark" 583),(sc 584),(i0 86),(i0 1),z0,z0,(i0 3),(rf 309),bT,(i0 181),(rf 310),.none,(rf 311),(rf 312),(rf 313),(i0 586),(i0 86),(sc 587)])))::
 (nat_lit 315,(fo "mark" "Slip.mark" st8 .none "stitchroom.stitches" 425 314))::
 (nat_lit 331,(ob "dict" (Data.dict #[(dm P 556 "stitchroom.stitches" 425),(dl P 560 75 559),(dR P "takes" 567 294),(dR P "gives" 574 301),(dR P "ties" 581 308),(dR P "mark" 588 315),(dR P "mirrored" 595 322),(dR P "turned" 602 329),(ds P 603 330),(dd P 604)] 2)))::
 (nat_lit 332,(Obj.mk (.type "type") none (Data.cls (ClassData.mk (so "Slip") [(rf 215)] [(rf 332),(rf 215),(.type "object")] 331 (so "Slip") true [] [] false none false)) #[(sr 281),none,(some (sv "Slip" 549)),(some (sv "Slip" 557)),(some (.builtin "object.__new__")),(some bT)]))::
 (nat_lit 347,(oc (#[(sv "takes" 619),(sv "Over.takes" 620),(sc 621),(i0 96),(i0 1),z0,z0,(i0 3),(rf 342),bT,(i0 181),(rf 343),.none,(rf 344),(rf 345),(rf 346),(i0 623),(i0 96),(sc 624)])))::
 (nat_lit 348,(fo "takes" "Over.takes" st9 .none "stitchroom.stitches" 425 347))::
 (nat_lit 361,(oc (#[(sv "ties" 633),(sv "Over.ties" 634),(sc 635),(i0 102),(i0 1),z0,z0,(i0 3),(rf 356),bT,(i0 181),(rf 357),.none,(rf 358),(rf 359),(rf 360),(i0 637),(i0 102),(sc 638)])))::
 (nat_lit 362,(fo "ties" "Over.ties" QdW .none "stitchroom.stitches" 425 361))::
 (nat_lit 368,(oc (#[(sv "mark" 640),(sv "Over.mark" 641),(sc 642),(i0 105),(i0 1),z0,z0,(i0 3),(rf 363),bT,(i0 181),(rf 364),.none,(rf 365),(rf 366),(rf 367),(i0 644),(i0 105),(sc 645)])))::
 (nat_lit 369,(fo "mark" "Over.mark" QdV .none "stitchroom.stitches" 425 368))::
 (nat_lit 385,(ob "dict" (Data.dict #[(dm P 614 "stitchroom.stitches" 425),(dl P 618 94 617),(dR P "takes" 625 348),(dR P "gives" 632 355),(dR P "ties" 639 362),(dR P "mark" 646 369),(dR P "mirrored" 653 376),(dR P "turned" 660 383),(ds P 661 384),(dd P 662)] 2)))::
 (nat_lit 386,(Obj.mk (.type "type") none (Data.cls (ClassData.mk (so "Over") [(rf 215)] [(rf 386),(rf 215),(.type "object")] 385 (so "Over") true [] [] false none false)) #[(sr 335),none,(some (sv "Over" 607)),(some (sv "Over" 615)),(some (.builtin "object.__new__")),(some bT)]))::
 (nat_lit 401,(oc (#[(sv "__init__" 677),(sv "Lean.__init__" 678),(sc 679),(i0 115),(i0 4),z0,z0,(i0 3),(rf 396),bT,(i0 181),(rf 397),.none,(rf 398),(rf 399),(rf 400),(i0 684),(i0 115),(sc 685)])))::
 (nat_lit 402,(fo "__init__" "Lean.__init__" QdU .none "stitchroom.stitches" 425 401))::
 (nat_lit 408,(oc (#[(sv "takes" 687),(sv "Lean.takes" 688),(sc 689),(i0 120),(i0 1),z0,z0,(i0 3),(rf 403),bT,(i0 181),(rf 404),.none,(rf 405),(rf 406),(rf 407),(i0 691),(i0 120),(sc 692)])))::
 (nat_lit 409,(fo "takes" "Lean.takes" QdT .none "stitchroom.stitches" 425 408))::
 (nat_lit 422,(oc (#[(sv "ties" 701),(sv "Lean.ties" 702),(sc 703),(i0 126),(i0 1),z0,z0,(i0 3),(rf 417),bT,(i0 181),(rf 418),.none,(rf 419),(rf 420),(rf 421),(i0 706),(i0 126),(sc 707)])))::
 (nat_lit 423,(fo "ties" "Lean.ties" QdS .none "stitchroom.stitches" 425 422))::
 (nat_lit 429,(oc (#[(sv "mark" 709),(sv "Lean.mark" 710),(sc 711),(i0 133),(i0 1),z0,z0,(i0 3),(rf 424),bT,(i0 181),(rf 425),.none,(rf 426),(rf 427),(rf 428),(i0 713),(i0 133),(sc 714)])))::
 (nat_lit 430,(fo "mark" "Lean.mark" QdR .none "stitchroom.stitches" 425 429))::
 (nat_lit 446,(ob "dict" (Data.dict #[(dm P 672 "stitchroom.stitches" 425),(dl P 676 113 675),(dR P "__init__" 686 402),(dR P "takes" 693 409),(dR P "gives" 700 416),(dR P "ties" 708 423),(dR P "mark" 715 430),(dR P "mirrored" 722 437),(dR P "turned" 729 444),(ds P 733 445),(dd P 734)] 2)))::
 (nat_lit 447,(Obj.mk (.type "type") none (Data.cls (ClassData.mk (so "Lean") [(rf 215)] [(rf 447),(rf 215),(.type "object")] 446 (so "Lean") true [] [] false none false)) #[(sr 389),none,(some (sv "Lean" 665)),(some (sv "Lean" 673)),(some (.builtin "object.__new__")),(some bT)]))::
 (nat_lit 462,(oc (#[(sv "__init__" 749),(sv "Grow.__init__" 750),(sc 751),(i0 143),(i0 3),z0,z0,(i0 3),(rf 457),bT,(i0 181),(rf 458),.none,(rf 459),(rf 460),(rf 461),(i0 755),(i0 143),(sc 756)])))::
 (nat_lit 463,(fo "__init__" "Grow.__init__" QdQ .none "stitchroom.stitches" 425 462))::
 (nat_lit 469,(oc (#[(sv "takes" 758),(sv "Grow.takes" 759),(sc 760),(i0 147),(i0 1),z0,z0,(i0 3),(rf 464),bT,(i0 181),(rf 465),.none,(rf 466),(rf 467),(rf 468),(i0 762),(i0 147),(sc 763)])))::
 (nat_lit 470,(fo "takes" "Grow.takes" QdP .none "stitchroom.stitches" 425 469))::
 (nat_lit 481,(oc (#[(sv "ties" 772),(sv "Grow.ties" 773),(sc 774),(i0 153),(i0 1),z0,z0,(i0 3),(rf 478),bT,(i0 181),(rf 479),.none,.none,.none,(rf 480),(i0 775),(i0 153),(sc 776)])))::
 (nat_lit 482,(fo "ties" "Grow.ties" QdO .none "stitchroom.stitches" 425 481))::
 (nat_lit 488,(oc (#[(sv "mark" 778),(sv "Grow.mark" 779),(sc 780),(i0 156),(i0 1),z0,z0,(i0 3),(rf 483),bT,(i0 181),(rf 484),.none,(rf 485),(rf 486),(rf 487),(i0 782),(i0 156),(sc 783)])))::
 (nat_lit 489,(fo "mark" "Grow.mark" QdN .none "stitchroom.stitches" 425 488))::
 (nat_lit 505,(ob "dict" (Data.dict #[(dm P 744 "stitchroom.stitches" 425),(dl P 748 141 747),(dR P "__init__" 757 463),(dR P "takes" 764 470),(dR P "gives" 771 477),(dR P "ties" 777 482),(dR P "mark" 784 489),(dR P "mirrored" 791 496),(dR P "turned" 798 503),(ds P 801 504),(dd P 802)] 2)))::
 (nat_lit 506,(Obj.mk (.type "type") none (Data.cls (ClassData.mk (so "Grow") [(rf 215)] [(rf 506),(rf 215),(.type "object")] 505 (so "Grow") true [] [] false none false)) #[(sr 450),none,(some (sv "Grow" 737)),(some (sv "Grow" 745)),(some (.builtin "object.__new__")),(some bT)]))::
 (nat_lit 521,(oc (#[(sv "__init__" 817),(sv "Cross.__init__" 818),(sc 819),(i0 166),(i0 5),z0,z0,(i0 3),(rf 516),bT,(i0 181),(rf 517),.none,(rf 518),(rf 519),(rf 520),(i0 825),(i0 166),(sc 826)])))::
 (nat_lit 522,(fo "__init__" "Cross.__init__" QdM .none "stitchroom.stitches" 425 521))::
 (nat_lit 528,(oc (#[(sv "takes" 828),(sv "Cross.takes" 829),(sc 830),(i0 172),(i0 1),z0,z0,(i0 3),(rf 523),bT,(i0 181),(rf 524),.none,(rf 525),(rf 526),(rf 527),(i0 832),(i0 172),(sc 833)])))::
 (nat_lit 529,(fo "takes" "Cross.takes" QdL .none "stitchroom.stitches" 425 528))::
 (nat_lit 540,(oc (#[(sv "ties" 842),(sv "Cross.ties" 843),(sc 844),(i0 178),(i0 1),z0,z0,(i0 3),(rf 537),bT,(i0 181),(rf 538),.none,.none,.none,(rf 539),(i0 845),(i0 178),(sc 846)])))::
 (nat_lit 541,(fo "ties" "Cross.ties" QdK .none "stitchroom.stitches" 425 540))::
 (nat_lit 547,(oc (#[(sv "mark" 848),(sv "Cross.mark" 849),(sc 850),(i0 184),(i0 1),z0,z0,(i0 3),(rf 542),bT,(i0 181),(rf 543),.none,(rf 544),(rf 545),(rf 546),(i0 852),(i0 184),(sc 853)])))::
 (nat_lit 548,(fo "mark" "Cross.mark" QdJ .none "stitchroom.stitches" 425 547))::
 (nat_lit 564,(ob "dict" (Data.dict #[(dm P 812 "stitchroom.stitches" 425),(dl P 816 164 815),(dR P "__init__" 827 522),(dR P "takes" 834 529),(dR P "gives" 841 536),(dR P "ties" 847 541),(dR P "mark" 854 548),(dR P "mirrored" 861 555),(dR P "turned" 868 562),(ds P 873 563),(dd P 874)] 2)))::
 (nat_lit 565,(Obj.mk (.type "type") none (Data.cls (ClassData.mk (so "Cross") [(rf 215)] [(rf 565),(rf 215),(.type "object")] 564 (so "Cross") true [] [] false none false)) #[(sr 509),none,(some (sv "Cross" 805)),(some (sv "Cross" 813)),(some (.builtin "object.__new__")),(some bT)]))::
 (nat_lit 580,(oc (#[(sv "takes" 889),(sv "Off.takes" 890),(sc 891),(i0 194),(i0 1),z0,z0,(i0 3),(rf 575),bT,(i0 181),(rf 576),.none,(rf 577),(rf 578),(rf 579),(i0 893),(i0 194),(sc 894)])))::
 (nat_lit 581,(fo "takes" "Off.takes" QdI .none "stitchroom.stitches" 425 580))::
 (nat_lit 594,(oc (#[(sv "ends" 903),(sv "Off.ends" 904),(sc 905),(i0 200),(i0 1),z0,z0,(i0 3),(rf 589),bT,(i0 181),(rf 590),.none,(rf 591),(rf 592),(rf 593),(i0 907),(i0 200),(sc 908)])))::
 (nat_lit 595,(fo "ends" "Off.ends" QdH .none "stitchroom.stitches" 425 594))::
 (nat_lit 601,(oc (#[(sv "mark" 910),(sv "Off.mark" 911),(sc 912),(i0 203),(i0 1),z0,z0,(i0 3),(rf 596),bT,(i0 181),(rf 597),.none,(rf 598),(rf 599),(rf 600),(i0 914),(i0 203),(sc 915)])))::
 (nat_lit 602,(fo "mark" "Off.mark" QdG .none "stitchroom.stitches" 425 601))::
 (nat_lit 618,(ob "dict" (Data.dict #[(dm P 884 "stitchroom.stitches" 425),(dl P 888 192 887),(dR P "takes" 895 581),(dR P "gives" 902 588),(dR P "ends" 909 595),(dR P "mark" 916 602),(dR P "mirrored" 923 609),(dR P "turned" 930 616),(ds P 931 617),(dd P 932)] 2)))::
 (nat_lit 619,(Obj.mk (.type "type") none (Data.cls (ClassData.mk (so "Off") [(rf 215)] [(rf 619),(rf 215),(.type "object")] 618 (so "Off") true [] [] false none false)) #[(sr 568),none,(some (sv "Off" 877)),(some (sv "Off" 885)),(some (.builtin "object.__new__")),(some bT)]))::
 (nat_lit 634,(oc (#[(sv "__init__" 947),(sv "Keep.__init__" 948),(sc 949),(i0 213),(i0 2),z0,z0,(i0 3),(rf 629),bT,(i0 181),(rf 630),.none,(rf 631),(rf 632),(rf 633),(i0 952),(i0 213),(sc 953)])))::
 (nat_lit 635,(fo "__init__" "Keep.__init__" QdF .none "stitchroom.stitches" 425 634))::
 (nat_lit 641,(oc (#[(sv "takes" 955),(sv "Keep.takes" 956),(sc 957),(i0 216),(i0 1),z0,z0,(i0 3),(rf 636),bT,(i0 181),(rf 637),.none,(rf 638),(rf 639),(rf 640),(i0 959),(i0 216),(sc 960)])))::
 (nat_lit 642,(fo "takes" "Keep.takes" QdE .none "stitchroom.stitches" 425 641))::
 (nat_lit 655,(oc (#[(sv "ends" 969),(sv "Keep.ends" 970),(sc 971),(i0 222),(i0 1),z0,z0,(i0 3),(rf 650),bT,(i0 181),(rf 651),.none,(rf 652),(rf 653),(rf 654),(i0 973),(i0 222),(sc 974)])))::
 (nat_lit 656,(fo "ends" "Keep.ends" QdD .none "stitchroom.stitches" 425 655))::
 (nat_lit 662,(oc (#[(sv "mark" 976),(sv "Keep.mark" 977),(sc 978),(i0 225),(i0 1),z0,z0,(i0 3),(rf 657),bT,(i0 181),(rf 658),.none,(rf 659),(rf 660),(rf 661),(i0 980),(i0 225),(sc 981)])))::
 (nat_lit 663,(fo "mark" "Keep.mark" QdC .none "stitchroom.stitches" 425 662))::
 (nat_lit 679,(ob "dict" (Data.dict #[(dm P 942 "stitchroom.stitches" 425),(dl P 946 211 945),(dR P "__init__" 954 635),(dR P "takes" 961 642),(dR P "gives" 968 649),(dR P "ends" 975 656),(dR P "mark" 982 663),(dR P "mirrored" 989 670),(dR P "turned" 996 677),(ds P 998 678),(dd P 999)] 2)))::
 (nat_lit 680,(Obj.mk (.type "type") none (Data.cls (ClassData.mk (so "Keep") [(rf 215)] [(rf 680),(rf 215),(.type "object")] 679 (so "Keep") true [] [] false none false)) #[(sr 622),none,(some (sv "Keep" 935)),(some (sv "Keep" 943)),(some (.builtin "object.__new__")),(some bT)]))::
 (nat_lit 695,(oc (#[(sv "__init__" 1014),(sv "Fetch.__init__" 1015),(sc 1016),(i0 235),(i0 2),z0,z0,(i0 3),(rf 690),bT,(i0 181),(rf 691),.none,(rf 692),(rf 693),(rf 694),(i0 1019),(i0 235),(sc 1020)])))::
 (nat_lit 696,(fo "__init__" "Fetch.__init__" QdB .none "stitchroom.stitches" 425 695))::
 (nat_lit 702,(oc (#[(sv "takes" 1022),(sv "Fetch.takes" 1023),(sc 1024),(i0 238),(i0 1),z0,z0,(i0 3),(rf 697),bT,(i0 181),(rf 698),.none,(rf 699),(rf 700),(rf 701),(i0 1026),(i0 238),(sc 1027)])))::
 (nat_lit 703,(fo "takes" "Fetch.takes" QdA .none "stitchroom.stitches" 425 702))::
 (nat_lit 716,(oc (#[(sv "ties" 1036),(sv "Fetch.ties" 1037),(sc 1038),(i0 244),(i0 1),z0,z0,(i0 3),(rf 711),bT,(i0 181),(rf 712),.none,(rf 713),(rf 714),(rf 715),(i0 1040),(i0 244),(sc 1041)])))::
 (nat_lit 717,(fo "ties" "Fetch.ties" Qdz .none "stitchroom.stitches" 425 716))::
 (nat_lit 723,(oc (#[(sv "mark" 1043),(sv "Fetch.mark" 1044),(sc 1045),(i0 247),(i0 1),z0,z0,(i0 3),(rf 718),bT,(i0 181),(rf 719),.none,(rf 720),(rf 721),(rf 722),(i0 1047),(i0 247),(sc 1048)])))::
 (nat_lit 724,(fo "mark" "Fetch.mark" Qdy .none "stitchroom.stitches" 425 723))::
 (nat_lit 740,(ob "dict" (Data.dict #[(dm P 1009 "stitchroom.stitches" 425),(dl P 1013 233 1012),(dR P "__init__" 1021 696),(dR P "takes" 1028 703),(dR P "gives" 1035 710),(dR P "ties" 1042 717),(dR P "mark" 1049 724),(dR P "mirrored" 1056 731),(dR P "turned" 1063 738),(ds P 1065 739),(dd P 1066)] 2)))::
 (nat_lit 741,(Obj.mk (.type "type") none (Data.cls (ClassData.mk (so "Fetch") [(rf 215)] [(rf 741),(rf 215),(.type "object")] 740 (so "Fetch") true [] [] false none false)) #[(sr 683),none,(some (sv "Fetch" 1002)),(some (sv "Fetch" 1010)),(some (.builtin "object.__new__")),(some bT)]))::
 (nat_lit 744,(ob "dict" (Data.dict #[(dk P "k" 1071 (.int 1 1072)),(dk P "p" 1073 (.int (-1) 1075))] 2)))::
 (nat_lit 745,(ob "dict" (Data.dict #[(dk P "c" 1079 (.int 1 1080)),(dk P "q" 1081 (.int (-1) 1083))] 2)))::
 (nat_lit 746,(tu #[(sv "r" 1087),(sv "l" 1088)] 0))::
 (nat_lit 747,(tu #[(sv "f" 1090),(sv "b" 1091)] 0))::
 (nat_lit 748,(ob "dict" (Data.dict #[(dk P "2" 1093 (.int 2 1094)),(dk P "3" 1095 (.int 3 1096)),(dk P "4" 1097 (.int 4 1098))] 3)))::
 (nat_lit 749,(ob "dict" (Data.dict #[(dk P "1" 1103 (.int 1 1104)),(dk P "2" 1105 (.int 2 1106)),(dk P "3" 1107 (.int 3 1108)),(dk P "4" 1109 (.int 4 1110))] 4)))::
 (nat_lit 755,(oc (#[(sv "stitch" 1116),(sv "stitch" 1117),(sc 1118),(i0 262),(i0 1),z0,z0,(i0 3),(rf 750),bT,(i0 181),(rf 751),.none,(rf 752),(rf 753),(rf 754),(i0 1121),(i0 262),(sc 1122)])))::
 (nat_lit 756,(fo "stitch" "stitch" Qdx .none "stitchroom.marks" 1069 755))::
 (nat_lit 762,(oc (#[(sv "stitch_of_text" 1124),(sv "stitch_of_text" 1125),(sc 1126),(i0 267),(i0 1),z0,z0,(i0 3),(rf 757),bT,(i0 181),(rf 758),.none,(rf 759),(rf 760),(rf 761),(i0 1129),(i0 267),(sc 1130)])))::
 (nat_lit 763,(fo "stitch_of_text" "stitch_of_text" Qdw .none "stitchroom.marks" 1069 762))::
 (nat_lit 769,(oc (#[(sv "bare_stitch" 1132),(sv "bare_stitch" 1133),(sc 1134),(i0 278),(i0 1),z0,z0,(i0 3),(rf 764),bT,(i0 181),(rf 765),.none,(rf 766),(rf 767),(rf 768),(i0 1136),(i0 278),(sc 1137)])))::
 (nat_lit 770,(fo "bare_stitch" "bare_stitch" Qdv .none "stitchroom.marks" 1069 769))::
 (nat_lit 776,(oc (#[(sv "keeper_stitch" 1139),(sv "keeper_stitch" 1140),(sc 1141),(i0 288),(i0 2),z0,z0,(i0 3),(rf 771),bT,(i0 181),(rf 772),.none,(rf 773),(rf 774),(rf 775),(i0 1144),(i0 288),(sc 1145)])))::
 (nat_lit 777,(fo "keeper_stitch" "keeper_stitch" Qdu .none "stitchroom.marks" 1069 776))::
 (nat_lit 783,(oc (#[(sv "sided_stitch" 1147),(sv "sided_stitch" 1148),(sc 1149),(i0 296),(i0 3),z0,z0,(i0 3),(rf 778),bT,(i0 181),(rf 779),.none,(rf 780),(rf 781),(rf 782),(i0 1153),(i0 296),(sc 1154)])))::
 (nat_lit 784,(fo "sided_stitch" "sided_stitch" Qdt .none "stitchroom.marks" 1069 783))::
 (nat_lit 790,(oc (#[(sv "crossing" 1156),(sv "crossing" 1157),(sc 1158),(i0 304),(i0 4),z0,z0,(i0 3),(rf 785),bT,(i0 181),(rf 786),.none,(rf 787),(rf 788),(rf 789),(i0 1163),(i0 304),(sc 1164)])))::
 (nat_lit 791,(fo "crossing" "crossing" Qds .none "stitchroom.marks" 1069 790))::
 (nat_lit 797,(oc (#[(sv "_law_same" 1168),(sv "_law_same" 1169),(sc 1170),(i0 309),(i0 2),z0,z0,(i0 3),(rf 792),bT,(i0 181),(rf 793),.none,(rf 794),(rf 795),(rf 796),(i0 1175),(i0 309),(sc 1176)])))::
 (nat_lit 798,(fo "_law_same" "_law_same" Qdr .none "law_stitchroom_k05_marks_read" 1166 797))::
 (nat_lit 804,(oc (#[(sv "_law_told" 1178),(sv "_law_told" 1179),(sc 1180),(i0 325),(i0 1),z0,z0,(i0 3),(rf 799),bT,(i0 181),(rf 800),.none,(rf 801),(rf 802),(rf 803),(i0 1184),(i0 325),(sc 1185)])))::
 (nat_lit 805,(fo "_law_told" "_law_told" Qdq .none "law_stitchroom_k05_marks_read" 1166 804))::
 (nat_lit 811,(oc (#[(sv "_law_mark" 1187),(sv "_law_mark" 1188),(sc 1189),(i0 340),(i0 1),z0,z0,(i0 3),(rf 806),bT,(i0 181),(rf 807),.none,(rf 808),(rf 809),(rf 810),(i0 1191),(i0 340),(sc 1192)])))::
 (nat_lit 812,(fo "_law_mark" "_law_mark" Qdp .none "law_stitchroom_k05_marks_read" 1166 811))::
 (nat_lit 816,(oc (#[(sv "_law_ties" 1194),(sv "_law_ties" 1195),(sc 1196),(i0 354),(i0 1),z0,z0,(i0 3),(rf 813),bT,(i0 181),(rf 814),.none,.none,.none,(rf 815),(i0 1197),(i0 354),(sc 1198)])))::
 (nat_lit 817,(fo "_law_ties" "_law_ties" Qdo .none "law_stitchroom_k05_marks_read" 1166 816))::
 (nat_lit 823,(oc (#[(sv "_law_ends" 1200),(sv "_law_ends" 1201),(sc 1202),(i0 375),(i0 1),z0,z0,(i0 3),(rf 818),bT,(i0 181),(rf 819),.none,(rf 820),(rf 821),(rf 822),(i0 1204),(i0 375),(sc 1205)])))::
 (nat_lit 824,(fo "_law_ends" "_law_ends" Qdn .none "law_stitchroom_k05_marks_read" 1166 823))::
 (nat_lit 830,(oc (#[(sv "_law_takes" 1207),(sv "_law_takes" 1208),(sc 1209),(i0 381),(i0 1),z0,z0,(i0 3),(rf 825),bT,(i0 181),(rf 826),.none,(rf 827),(rf 828),(rf 829),(i0 1211),(i0 381),(sc 1212)])))::
 (nat_lit 831,(fo "_law_takes" "_law_takes" Qdm .none "law_stitchroom_k05_marks_read" 1166 830))::
 (nat_lit 837,(oc (#[(sv "_law_sign_by" 1214),(sv "_law_sign_by" 1215),(sc 1216),(i0 387),(i0 1),z0,z0,(i0 3),(rf 832),bT,(i0 181),(rf 833),.none,(rf 834),(rf 835),(rf 836),(i0 1219),(i0 387),(sc 1220)])))::
 (nat_lit 838,(fo "_law_sign_by" "_law_sign_by" Qdl .none "law_stitchroom_k05_marks_read" 1166 837))::
 (nat_lit 844,(oc (#[(sv "_law_thing" 1222),(sv "_law_thing" 1223),(sc 1224),(i0 391),(i0 2),z0,z0,(i0 3),(rf 839),bT,(i0 181),(rf 840),.none,(rf 841),(rf 842),(rf 843),(i0 1233),(i0 391),(sc 1234)])))::
 (nat_lit 845,(fo "_law_thing" "_law_thing" Qdk .none "law_stitchroom_k05_marks_read" 1166 844))::
 (nat_lit 851,(oc (#[(sv "_law_of_class" 1236),(sv "_law_of_class" 1237),(sc 1238),(i0 411),(i0 2),z0,z0,(i0 3),(rf 846),bT,(i0 181),(rf 847),.none,(rf 848),(rf 849),(rf 850),(i0 1241),(i0 411),(sc 1242)])))::
 (nat_lit 852,(fo "_law_of_class" "_law_of_class" Qdj .none "law_stitchroom_k05_marks_read" 1166 851))::
 (nat_lit 858,(oc (#[(sv "_law_refused" 1244),(sv "_law_refused" 1245),(sc 1246),(i0 429),(i0 1),z0,z0,(i0 3),(rf 853),bT,(i0 181),(rf 854),.none,(rf 855),(rf 856),(rf 857),(i0 1250),(i0 429),(sc 1251)])))::
 (nat_lit 859,(fo "_law_refused" "_law_refused" Qdi .none "law_stitchroom_k05_marks_read" 1166 858))::
 (nat_lit 865,(oc (#[(sv "law" 1253),(sv "law" 1254),(sc 1255),(i0 444),(i0 1),z0,z0,(i0 3),(rf 860),bT,(i0 181),(rf 861),.none,(rf 862),(rf 863),(rf 864),(i0 1263),(i0 444),(sc 1264)])))::
 (nat_lit 866,(fo "law" "law" QcZ .none "law_stitchroom_k05_marks_read" 1166 865))::[]
noncomputable def KA:List Addr:=[2,3,30,31,32,43,44,63,64,75,76,87,88,106,107,118,119,130,131,149,150,161,162,173,174,185,186,189,190,191,204,205,211,212,214,215,216,217,232,233,239,240,253,254,260,261,277,278,293,294,307,308,314,315,331,332,347,348,361,362,368,369,385,386,401,402,408,409,422,423,429,430,446,447,462,463,469,470,481,482,488,489,505,506,521,522,528,529,540,541,547,548,564,565,580,581,594,595,601,602,618,619,634,635,641,642,655,656,662,663,679,680,695,696,702,703,716,717,723,724,740,741,744,745,746,747,748,749,755,756,762,763,769,770,776,777,783,784,790,791,797,798,804,805,811,812,816,817,823,824,830,831,837,838,844,845,851,852,858,859,865,866]
theorem hKA:∀P,KA=(K P).map (·.1):=fun _=>by kernel_rfl
noncomputable abbrev hXt:Shared->Bool:=fun s=>W.xlAt hq [] s&&W.recOk (W.RowW.records hr) s
theorem hop:W.opening hp=W.plainProg hp.main.scope.names:=by kernel_rfl
theorem hfm:∀s,PySem.fenceModules? hp s=some s:=fun s=>by kernel_rfl
theorem hbo:∀w:World,W.absHeap (hB.t w.params) hB.n hB.life=W.boot_heap w.params:=fun w=>by kernel_rfl
theorem hsz:∀w:World,((W.boot_heap w.params).isNs mainGlobals,(W.boot_heap w.params).objs.size,(W.boot_heap w.params).nsMap mainGlobals "__annotations__")=(true,11,some (.ref 6)):=fun w=>by kernel_rfl
noncomputable abbrev hYf:Shared->List (Option Obj):=fun s=>KA.map s.heap.get?
noncomputable abbrev hYa:World->List (Option Obj):=fun w=>(K w.params).map fun p=>some p.2
noncomputable abbrev hN:Nat:=15310
noncomputable abbrev hn6:Option Value:=some (.ref 6)
noncomputable abbrev hS(w:World):Prop:=Iv.RunT hp hq hlo hXt hYf hYa 15310 true hB 11 (some (.ref 6)) w
noncomputable abbrev fr(x q:Str)(s:Stmt)(d k:Value):Obj:=⟨.none,none,.func ⟨x,q,Qd s,.stmts (Qc s),Qa s,0,[],d,k,.none,.none,none,.none,.none,0⟩,#[]⟩
noncomputable abbrev hbd:List Stmt:=W.behindTheImports hp
noncomputable def eV:Env:={ scope:=hp.main.scope,locals:=mainNs,globals:=mainNs,cells:=[],code:=(Value.ref 13),frame:=some 14 }
noncomputable abbrev hcd:Code:=.body hbd eV
noncomputable abbrev hqp:Pos:=(Pos.mk 0 0 0 0)
noncomputable abbrev nd(v:Obj)(l r:W.BT):W.BT:=.node v l r
noncomputable abbrev nl(v:Obj):W.BT:=.node v .nil .nil
noncomputable def n0(P:Params):Obj:=(Obj.mk .none none (Data.fields #[]) #[])
noncomputable def n1(P:Params):Obj:=(oc (#[(sv "<module>" 182),(sv "<module>" 183),(sc 184),(i0 1),z0,z0,z0,z0,(rf 11),bF,(i0 181),(rf 12),.none,.none,.none,.none,(i0 185),(i0 1),(sc 186)]))
noncomputable def n2(P:Params):Obj:=(Obj.mk (.type "frame") none Data.plain #[(sr 13),(sr 3),(sr 3),none,(some (sv "__main__" 164)),none,(sr 0)])
noncomputable def Ta(P:Params):W.BT:=(nd (W.boot_o_0 P) (nd (W.boot_o_1 P) (nd (W.boot_o_3 P) (nl (W.boot_o_7 P)) (nl (tu #[] 0))) (nd (W.boot_o_5 P) (nl (W.boot_o_9 P)) (nl (n1 P)))) (nd (W.boot_o_2 P) (nd (W.boot_o_4 P) (nl (W.boot_o_8 P)) (nl (n0 P))) (nd (W.boot_o_6 P) (nl (W.boot_o_10 P)) (nl (n2 P)))))
noncomputable abbrev Sa(w:World)(os:OsState):W.SharedT:=⟨Ta w.params,15,(Life.mk [] [] [] 0 [] [] Bool.false #[] [] 0 Bool.false Bool.false Bool.false 0 [2000,10,10] Bool.false 0 Bool.true [] [] 0 Bool.false),Array.mk [],(Drawn.mk 0 0 0 0),187,os⟩
noncomputable def Tb(P:Params):W.BT:=(nd (W.boot_o_0 P) (nd (W.boot_o_1 P) (nd (W.boot_o_3 P) (nl (W.boot_o_7 P)) (nl (tu #[] 0))) (nd (W.boot_o_5 P) (nl (W.boot_o_9 P)) (nl (n1 P)))) (nd (W.boot_o_2 P) (nd (W.boot_o_4 P) (nl (W.boot_o_8 P)) (nl (n0 P))) (nd (W.boot_o_6 P) (nl (W.boot_o_10 P)) (nl (n2 P)))))
noncomputable abbrev Sb(w:World)(os:OsState):W.SharedT:=⟨Tb w.params,15,(Life.mk [] [] [] 0 [] [] Bool.false #[] [] 0 Bool.false Bool.false Bool.false 0 [2000,10,10] Bool.false 0 Bool.true [] [] 0 Bool.false),Array.mk [],(Drawn.mk 0 0 0 0),187,os⟩
noncomputable def n3(P:Params):Obj:=(ob "builtin_function_or_method" (Data.fields #[(.builtin "type.__prepare__"),(.type "type")]))
noncomputable def n4(P:Params):Obj:=(tu #[(rf 31)] 0)
noncomputable def T1(P:Params):W.BT:=(nd (W.boot_o_0 P) (nd (W.boot_o_1 P) (nd (ob "dict" (Data.dict #[(dk P "__name__" 165 (sv "stitchroom.stitches" 425)),(dd P 166),(dk P "__package__" 167 .none),(dk P "__loader__" 168 (.builtin "__main__.__loader__#opaque")),(dk P "__spec__" 169 .none),(dR P "__annotations__" 170 6),(dR P "__builtins__" 171 4),(dk P "__file__" 173 (sc 172)),(dk P "__cached__" 174 .none),(dR P "_wall" 193 21),(dR P "StitchError" 213 31),(dR P "NoStitch" 229 44),(dR P "NoSum" 254 64),(dR P "NoPattern" 270 76),(dR P "TooMany" 286 88),(dR P "Miscount" 319 107),(dR P "NotLying" 335 119),(dR P "NoChart" 351 131),(dR P "Tangle" 376 150),(dR P "NoRow" 392 162),(dR P "NoName" 408 174),(dR P "NoPlace" 424 186),(dR P "KEEPERS" 431 189),(dR P "SIDE_SIGNS" 439 190),(dR P "CROSS_SIGNS" 447 191),(dR P "Stitch" 481 215),(dR P "Plain" 548 278)] 27)) (nd (W.boot_o_7 P) (nd (tu #[] 0) (nd (Obj.mk (.type "type") none (Data.cls (ClassData.mk (so "StitchError") [(.type "ValueError")] [(rf 31),(.type "ValueError"),(.type "Exception"),(.type "BaseException"),(.type "object")] 30 (so "StitchError") true [] [(rf 44),(rf 64),(rf 76),(rf 88),(rf 107),(rf 119),(rf 131),(rf 150),(rf 162),(rf 174),(rf 186)] false none false)) #[(sr 22),none,(some (sv "StitchError" 196)),(some (sv "StitchError" 204)),(some (.builtin "ValueError.__new__")),(some bT)]) (nd (ob "dict" (Data.dict #[(dm P 237 "stitchroom.errors" 194),(dl P 241 9 240),(dR P "__init__" 249 61),(ds P 251 62),(dd P 252)] 2)) (nd (oc (#[(sv "NoChart" 338),(sv "NoChart" 339),(sc 340),(i0 29),z0,z0,z0,z0,(rf 125),bF,(i0 181),(rf 126),.none,.none,.none,.none,(i0 341),(i0 29),(sc 342)])) (nl (tu #[] 0)) .nil) (nl (ob "dict" (Data.dict #[(DictEntry.mk 1 (.int 1 440) (sv "c" 441)),(DictEntry.mk (-2) (.int (-1) 443) (sv "q" 444))] 2)))) (nd (Obj.mk .none none (Data.fields #[(i0 20),(i0 4),(rf 103)]) #[]) (nl (Obj.mk (.type "frame") none Data.plain #[(sr 158),(sr 3),(sr 155),none,(some (sv "stitchroom.errors" 194)),none,(sr 0)])) (nl (tu #[] 0)))) (nd (n4 P) (nd (n4 P) (nd (tu #[(sv "self" 367),(sv "move" 368)] 0) (nl (tu #[(sv "self" 540)] 0)) .nil) (nl (n0 P))) (nd (n3 P) (nl (ob "super" (Data.fields #[(rf 174),(rf 174),(rf 174)]))) (nl (oc (#[(sv "takes" 502),(sv "Plain.takes" 503),(sc 504),(i0 58),(i0 1),z0,z0,(i0 3),(rf 234),bT,(i0 181),(rf 235),.none,(rf 236),(rf 237),(rf 238),(i0 506),(i0 58),(sc 507)])))))) (nd (n3 P) (nd (n0 P) (nd (n0 P) (nd (n3 P) (nl (n0 P)) .nil) (nl (tu #[] 0))) (nd (oc (#[(sv "__init__" 299),(sv "Miscount.__init__" 300),(sc 301),(i0 20),(i0 6),z0,z0,(i0 3),(rf 98),bT,(i0 181),(rf 99),.none,(rf 100),(rf 101),(rf 102),(i0 308),(i0 20),(sc 309)])) (nl (ob "dict" (Data.dict #[(dm P 400 "stitchroom.errors" 194),(dq P 402 "NoName" 401),(dl P 404 38 403),(ds P 405 172)] 4))) (nl (fr (so "__init__") (so "Plain.__init__") st2 .none .none)))) (nd (tu #[] 0) (nd (ob "dict" (Data.dict #[(dm P 278 "stitchroom.errors" 194),(dl P 282 16 281),(ds P 283 86),(dd P 284)] 2)) (nd (ob "super" (Data.fields #[(rf 150),(rf 150),(rf 150)])) (nl (ob "super" (Data.fields #[(rf 278),(rf 278),(rf 278)]))) .nil) (nl (Obj.mk (.type "type") none (Data.cls (ClassData.mk (so "Stitch") [(.type "object")] [(rf 215),(.type "object")] 214 (so "Stitch") true [] [(rf 278)] false none false)) #[none,none,(some (sv "Stitch" 448)),(some (sv "Stitch" 456)),(some (.builtin "object.__new__")),(some bT)]))) (nd (Obj.mk (.type "type") none (Data.cls (ClassData.mk (so "NotLying") [(rf 31)] [(rf 119),(rf 31),(.type "ValueError"),(.type "Exception"),(.type "BaseException"),(.type "object")] 118 (so "NotLying") true [] [] false none false)) #[(sr 110),none,(some (sv "NotLying" 320)),(some (sv "NotLying" 328)),(some (.builtin "ValueError.__new__")),(some bT)]) (nl (Obj.mk (.type "frame") none Data.plain #[(sr 182),(sr 3),(sr 179),none,(some (sv "stitchroom.errors" 194)),none,(sr 0)])) (nl (fo "gives" "Plain.gives" (Qi (top 19) 2) .none "stitchroom.stitches" 425 246)))))) (nd (tu #[] 0) (nd (fr (so "_wall") (so "_wall") (top 0) .none .none) (nd (n4 P) (nd (n4 P) (nd (Obj.mk (.type "type") none (Data.cls (ClassData.mk (so "NoChart") [(rf 31)] [(rf 131),(rf 31),(.type "ValueError"),(.type "Exception"),(.type "BaseException"),(.type "object")] 130 (so "NoChart") true [] [] false none false)) #[(sr 122),none,(some (sv "NoChart" 336)),(some (sv "NoChart" 344)),(some (.builtin "ValueError.__new__")),(some bT)]) (nl (fr (so "mark") (so "Plain.mark") st5 .none .none)) .nil) (nl (tu #[] 0))) (nd (n0 P) (nl (ob "super" (Data.fields #[(rf 162),(rf 162),(rf 162)]))) (nl (tu #[] 0)))) (nd (Obj.mk .none none (Data.fields #[(i0 11),(i0 4),(rf 60)]) #[]) (nd (n0 P) (nd (fo "__init__" "Tangle.__init__" (Qi (top 10) 0) .none "stitchroom.errors" 194 146) (nl (fo "turned" "Plain.turned" (Qi (top 19) 6) .none "stitchroom.stitches" 425 274)) .nil) (nl (oc (#[(sv "ends" 467),(sv "Stitch.ends" 468),(sc 469),(i0 51),(i0 1),z0,z0,(i0 3),(rf 206),bT,(i0 181),(rf 207),.none,(rf 208),(rf 209),(rf 210),(i0 471),(i0 51),(sc 472)])))) (nd (oc (#[(sv "NotLying" 322),(sv "NotLying" 323),(sc 324),(i0 27),z0,z0,z0,z0,(rf 113),bF,(i0 181),(rf 114),.none,.none,.none,.none,(i0 325),(i0 27),(sc 326)])) (nl (ob "dict" (Data.dict #[(dm P 416 "stitchroom.errors" 194),(dq P 418 "NoPlace" 417),(dl P 420 40 419),(ds P 421 184)] 4))) (nl (tu #[(sv "self" 512)] 0))))) (nd (oc (#[(sv "StitchError" 198),(sv "StitchError" 199),(sc 200),(i0 5),z0,z0,z0,z0,(rf 25),bF,(i0 181),(rf 26),.none,.none,.none,.none,(i0 201),(i0 5),(sc 202)])) (nd (ob "dict" (Data.dict #[(dm P 221 "stitchroom.errors" 194),(dl P 225 7 224),(ds P 226 42),(dd P 227)] 2)) (nd (ob "dict" (Data.dict #[(dm P 262 "stitchroom.errors" 194),(dl P 266 14 265),(ds P 267 74),(dd P 268)] 2)) (nd (oc (#[(sv "Tangle" 354),(sv "Tangle" 355),(sc 356),(i0 31),z0,z0,z0,z0,(rf 137),bF,(i0 181),(rf 138),.none,.none,.none,.none,(i0 357),(i0 31),(sc 358)])) (nl (oc (#[(sv "mirrored" 530),(sv "Plain.mirrored" 531),(sc 532),(i0 70),(i0 1),z0,z0,(i0 3),(rf 262),bT,(i0 181),(rf 263),.none,(rf 264),(rf 265),(rf 266),(i0 534),(i0 70),(sc 535)]))) .nil) (nl (fr (so "ties") (so "Stitch.ties") st0 .none .none))) (nd (Obj.mk (.type "type") none (Data.cls (ClassData.mk (so "Miscount") [(rf 31)] [(rf 107),(rf 31),(.type "ValueError"),(.type "Exception"),(.type "BaseException"),(.type "object")] 106 (so "Miscount") true [] [] false none false)) #[(sr 91),none,(some (sv "Miscount" 287)),(some (sv "Miscount" 295)),(some (.builtin "ValueError.__new__")),(some bT)]) (nl (Obj.mk (.type "frame") none Data.plain #[(sr 170),(sr 3),(sr 167),none,(some (sv "stitchroom.errors" 194)),none,(sr 0)])) (nl (n0 P)))) (nd (fr (so "__init__") (so "NoSum.__init__") (Qi (top 4) 0) .none .none) (nd (n4 P) (nl (ob "dict" (Data.dict #[(dm P 384 "stitchroom.errors" 194),(dq P 386 "NoRow" 385),(dl P 388 36 387),(ds P 389 160)] 4))) (nl (ob "builtin_function_or_method" (Data.fields #[(.builtin "object.__init_subclass__"),(rf 215)])))) (nd (n3 P) (nl (ob "super" (Data.fields #[(rf 186),(rf 186),(rf 186)]))) (nl (tu #[] 0))))))) (nd (W.boot_o_5 P) (nd (W.boot_o_9 P) (nd (tu #[(sv "k" 190)] 0) (nd (ob "super" (Data.fields #[(rf 31),(rf 31),(rf 31)])) (nd (ob "super" (Data.fields #[(rf 64),(rf 64),(rf 64)])) (nd (tu #[] 0) (nl (tu #[(sv "self" 526)] 0)) .nil) (nl (n3 P))) (nd (Obj.mk (.type "frame") none Data.plain #[(sr 96),(sr 3),(sr 93),none,(some (sv "stitchroom.errors" 194)),none,(sr 0)]) (nl (ob "dict" (Data.dict #[(dm P 384 "stitchroom.errors" 194),(dl P 388 36 387),(ds P 389 160),(dd P 390)] 2))) (nl (oc (#[(sv "Plain" 484),(sv "Plain" 485),(sc 486),(i0 53),z0,z0,z0,z0,(rf 223),bF,(i0 181),(rf 224),.none,.none,.none,.none,(i0 487),(i0 53),(sc 488)]))))) (nd (ob "dict" (Data.dict #[(dm P 237 "stitchroom.errors" 194),(dq P 239 "NoSum" 238),(dl P 241 9 240),(dR P "__init__" 249 61),(ds P 251 62)] 5)) (nd (ob "dict" (Data.dict #[(dm P 278 "stitchroom.errors" 194),(dq P 280 "TooMany" 279),(dl P 282 16 281),(ds P 283 86)] 4)) (nd (fr (so "__init__") (so "Tangle.__init__") (Qi (top 10) 0) .none .none) (nl (fr (so "turned") (so "Plain.turned") (Qi (top 19) 6) .none .none)) .nil) (nl (tu #[] 0))) (nd (tu #[] 0) (nl (n4 P)) (nl (tu #[] 0))))) (nd (tu #[] 0) (nd (Obj.mk (.type "frame") none Data.plain #[(sr 40),(sr 3),(sr 37),none,(some (sv "stitchroom.errors" 194)),none,(sr 0)]) (nd (Obj.mk (.type "frame") none Data.plain #[(sr 72),(sr 3),(sr 69),none,(some (sv "stitchroom.errors" 194)),none,(sr 0)]) (nd (tu #[] 0) (nl (tu #[] 0)) .nil) (nl (tu #[(sv "self" 463)] 0))) (nd (tu #[(sv "asked" 311),(sv "choice" 312),(sv "lies" 313),(sv "place" 314),(sv "row" 315)] 0) (nl (n0 P)) (nl (fo "__init__" "Plain.__init__" st2 .none "stitchroom.stitches" 425 232)))) (nd (tu #[(sv "self" 245),(sv "row" 246)] 0) (nd (ob "super" (Data.fields #[(rf 88),(rf 88),(rf 88)])) (nl (n4 P)) (nl (ob "getset_descriptor" (Data.fields #[(sv "__weakref__" 477),(rf 215),(.builtin "ExceptionGroup.__weakref__"),.none])))) (nd (ob "builtin_function_or_method" (Data.fields #[(.builtin "object.__init_subclass__"),(rf 119)])) (nl (ob "dict" (Data.dict #[(dm P 416 "stitchroom.errors" 194),(dl P 420 40 419),(ds P 421 184),(dd P 422)] 2))) (nl (n0 P)))))) (nd (n1 P) (nd (fo "_wall" "_wall" (top 0) .none "__main__" 164 20) (nd (ob "dict" (Data.dict #[(dm P 221 "stitchroom.errors" 194),(dq P 223 "NoStitch" 222),(dl P 225 7 224),(ds P 226 42)] 4)) (nd (ob "dict" (Data.dict #[(dm P 262 "stitchroom.errors" 194),(dq P 264 "NoPattern" 263),(dl P 266 14 265),(ds P 267 74)] 4)) (nd (ob "builtin_function_or_method" (Data.fields #[(.builtin "object.__init_subclass__"),(rf 131)])) (nl (fo "mark" "Plain.mark" st5 .none "stitchroom.stitches" 425 260)) .nil) (nl (oc (#[(sv "Stitch" 450),(sv "Stitch" 451),(sc 452),(i0 46),z0,z0,z0,z0,(rf 195),bF,(i0 181),(rf 196),.none,.none,.none,.none,(i0 453),(i0 46),(sc 454)])))) (nd (tu #[] 0) (nl (n4 P)) (nl (tu #[(sv "self" 497),(sv "side" 498)] 0)))) (nd (Obj.mk (.type "frame") none Data.plain #[(sr 52),(sr 3),(sr 49),none,(some (sv "stitchroom.errors" 194)),none,(sr 0)]) (nd (Obj.mk (.type "frame") none Data.plain #[(sr 84),(sr 3),(sr 81),none,(some (sv "stitchroom.errors" 194)),none,(sr 0)]) (nd (ob "dict" (Data.dict #[(dm P 359 "stitchroom.errors" 194),(dl P 363 31 362),(dR P "__init__" 371 147),(ds P 373 148),(dd P 374)] 2)) (nl (ob "dict" (Data.dict #[(dm P 489 "stitchroom.stitches" 425),(dl P 493 53 492),(dR P "__init__" 501 233),(dR P "takes" 508 240),(dR P "gives" 515 247),(dR P "ties" 522 254),(dR P "mark" 529 261),(dR P "mirrored" 536 268),(dR P "turned" 543 275),(ds P 545 276),(dd P 546)] 2))) .nil) (nl (tu #[] 0))) (nd (tu #[] 0) (nl (n0 P)) (nl (fr (so "gives") (so "Plain.gives") (Qi (top 19) 2) .none .none))))) (nd (tu #[] 0) (nd (ob "super" (Data.fields #[(rf 44),(rf 44),(rf 44)])) (nd (ob "super" (Data.fields #[(rf 76),(rf 76),(rf 76)])) (nd (tu #[] 0) (nl (tu #[] 0)) .nil) (nl (fo "ties" "Stitch.ties" st0 .none "stitchroom.stitches" 425 204))) (nd (ob "builtin_function_or_method" (Data.fields #[(.builtin "object.__init_subclass__"),(rf 107)])) (nl (ob "dict" (Data.dict #[(dm P 400 "stitchroom.errors" 194),(dl P 404 38 403),(ds P 405 172),(dd P 406)] 2))) (nl (tu #[] 0)))) (nd (fo "__init__" "NoSum.__init__" (Qi (top 4) 0) (rf 54) "stitchroom.errors" 194 60) (nd (ob "dict" (Data.dict #[(dm P 294 "stitchroom.errors" 194),(dq P 296 "Miscount" 295),(dl P 298 18 297),(dR P "__init__" 310 104),(ds P 316 105)] 5)) (nl (n0 P)) (nl (n3 P))) (nd (tu #[] 0) (nl (tu #[(sv "w" 427),(sv "x" 428),(sv "y" 429),(sv "z" 430)] 0)) (nl (oc (#[(sv "ties" 516),(sv "Plain.ties" 517),(sc 518),(i0 64),(i0 1),z0,z0,(i0 3),(rf 248),bT,(i0 181),(rf 249),.none,(rf 250),(rf 251),(rf 252),(i0 520),(i0 64),(sc 521)]))))))))) (nd (W.boot_o_2 P) (nd (W.boot_o_4 P) (nd (W.boot_o_8 P) (nd (n0 P) (nd (ob "getset_descriptor" (Data.fields #[(sv "__weakref__" 209),(rf 31),(.builtin "ExceptionGroup.__weakref__"),.none])) (nd (Obj.mk (.type "type") none (Data.cls (ClassData.mk (so "NoSum") [(rf 31)] [(rf 64),(rf 31),(.type "ValueError"),(.type "Exception"),(.type "BaseException"),(.type "object")] 63 (so "NoSum") true [] [] false none false)) #[(sr 47),none,(some (sv "NoSum" 230)),(some (sv "NoSum" 238)),(some (.builtin "ValueError.__new__")),(some bT)]) (nd (Obj.mk (.type "frame") none Data.plain #[(sr 127),(sr 3),(sr 124),none,(some (sv "stitchroom.errors" 194)),none,(sr 0)]) (nl (n0 P)) .nil) (nl (tu #[] 0))) (nd (oc (#[(sv "Miscount" 289),(sv "Miscount" 290),(sc 291),(i0 18),z0,z0,z0,z0,(rf 94),bF,(i0 181),(rf 95),.none,.none,.none,.none,(i0 292),(i0 18),(sc 293)])) (nl (tu #[] 0)) (nl (Obj.mk .none none (Data.fields #[(i0 55),(i0 4),(rf 232),(i0 58),(i0 4),(rf 239),(i0 61),(i0 4),(rf 246),(i0 64),(i0 4),(rf 253),(i0 67),(i0 4),(rf 260),(i0 70),(i0 4),(rf 267),(i0 73),(i0 4),(rf 274)]) #[])))) (nd (n3 P) (nd (n3 P) (nd (tu #[] 0) (nl (tu #[] 0)) .nil) (nl (tu #[(sv "self" 470)] 0))) (nd (ob "dict" (Data.dict #[(dm P 327 "stitchroom.errors" 194),(dq P 329 "NotLying" 328),(dl P 331 27 330),(ds P 332 117)] 4)) (nl (ob "builtin_function_or_method" (Data.fields #[(.builtin "object.__init_subclass__"),(rf 174)]))) (nl (fo "takes" "Plain.takes" st3 .none "stitchroom.stitches" 425 239))))) (nd (ob "dict" (Data.dict #[(dm P 203 "stitchroom.errors" 194),(dq P 205 "StitchError" 204),(dl P 207 5 206),(ds P 208 29)] 4)) (nd (oc (#[(sv "NoStitch" 216),(sv "NoStitch" 217),(sc 218),(i0 7),z0,z0,z0,z0,(rf 38),bF,(i0 181),(rf 39),.none,.none,.none,.none,(i0 219),(i0 7),(sc 220)])) (nd (oc (#[(sv "NoPattern" 257),(sv "NoPattern" 258),(sc 259),(i0 14),z0,z0,z0,z0,(rf 70),bF,(i0 181),(rf 71),.none,.none,.none,.none,(i0 260),(i0 14),(sc 261)])) (nd (ob "dict" (Data.dict #[(dm P 359 "stitchroom.errors" 194),(dq P 361 "Tangle" 360),(dl P 363 31 362),(dR P "__init__" 371 147),(ds P 373 148)] 5)) (nl (tu #[(sv "self" 533)] 0)) .nil) (nl (n0 P))) (nd (fo "__init__" "Miscount.__init__" (Qi (top 7) 0) .none "stitchroom.errors" 194 103) (nl (tu #[] 0)) (nl (oc (#[(sv "__init__" 494),(sv "Plain.__init__" 495),(sc 496),(i0 55),(i0 2),z0,z0,(i0 3),(rf 227),bT,(i0 181),(rf 228),.none,(rf 229),(rf 230),(rf 231),(i0 499),(i0 55),(sc 500)]))))) (nd (n0 P) (nd (Obj.mk (.type "type") none (Data.cls (ClassData.mk (so "TooMany") [(rf 31)] [(rf 88),(rf 31),(.type "ValueError"),(.type "Exception"),(.type "BaseException"),(.type "object")] 87 (so "TooMany") true [] [] false none false)) #[(sr 79),none,(some (sv "TooMany" 271)),(some (sv "TooMany" 279)),(some (.builtin "ValueError.__new__")),(some bT)]) (nd (ob "builtin_function_or_method" (Data.fields #[(.builtin "object.__init_subclass__"),(rf 150)])) (nl (ob "builtin_function_or_method" (Data.fields #[(.builtin "object.__init_subclass__"),(rf 278)]))) .nil) (nl (ob "getset_descriptor" (Data.fields #[(sv "__dict__" 475),(rf 215),(.builtin "function.__dict__"),(.builtin "function.__dict__#set")])))) (nd (ob "super" (Data.fields #[(rf 119),(rf 119),(rf 119)])) (nl (tu #[] 0)) (nl (tu #[] 0)))))) (nd (Obj.mk .none none (Data.fields #[(i0 1),z0,(rf 20),(i0 5),z0,(rf 27),(i0 7),z0,(rf 40),(i0 9),z0,(rf 52),(i0 14),z0,(rf 72),(i0 16),z0,(rf 84),(i0 18),z0,(rf 96),(i0 27),z0,(rf 115),(i0 29),z0,(rf 127),(i0 31),z0,(rf 139),(i0 36),z0,(rf 158),(i0 38),z0,(rf 170),(i0 40),z0,(rf 182),(i0 46),z0,(rf 197),(i0 53),z0,(rf 225)]) #[]) (nd (oc (#[(sv "_wall" 187),(sv "_wall" 188),(sc 189),(i0 1),(i0 1),z0,z0,(i0 3),(rf 15),bT,(i0 181),(rf 16),.none,(rf 17),(rf 18),(rf 19),(i0 191),(i0 1),(sc 192)])) (nd (n3 P) (nd (n3 P) (nd (ob "super" (Data.fields #[(rf 131),(rf 131),(rf 131)])) (nl (oc (#[(sv "mark" 523),(sv "Plain.mark" 524),(sc 525),(i0 67),(i0 1),z0,z0,(i0 3),(rf 255),bT,(i0 181),(rf 256),.none,(rf 257),(rf 258),(rf 259),(i0 527),(i0 67),(sc 528)]))) .nil) (nl (Obj.mk .none none (Data.fields #[(i0 48),(i0 4),(rf 204),(i0 51),(i0 4),(rf 211)]) #[]))) (nd (tu #[(sv "self" 302),(sv "row" 303),(sv "place" 304),(sv "choice" 305),(sv "lies" 306),(sv "asked" 307)] 0) (nl (ob "builtin_function_or_method" (Data.fields #[(.builtin "object.__init_subclass__"),(rf 162)]))) (nl (n0 P)))) (nd (oc (#[(sv "NoSum" 232),(sv "NoSum" 233),(sc 234),(i0 9),z0,z0,z0,z0,(rf 50),bF,(i0 181),(rf 51),.none,.none,.none,.none,(i0 235),(i0 9),(sc 236)])) (nd (oc (#[(sv "TooMany" 273),(sv "TooMany" 274),(sc 275),(i0 16),z0,z0,z0,z0,(rf 82),bF,(i0 181),(rf 83),.none,.none,.none,.none,(i0 276),(i0 16),(sc 277)])) (nd (tu #[(sv "move" 372)] 0) (nl (tu #[(sv "side" 544)] 0)) .nil) (nl (fo "ends" "Stitch.ends" st1 .none "stitchroom.stitches" 425 211))) (nd (Obj.mk (.type "frame") none Data.plain #[(sr 115),(sr 3),(sr 112),none,(some (sv "stitchroom.errors" 194)),none,(sr 0)]) (nl (tu #[] 0)) (nl (tu #[] 0))))) (nd (Obj.mk (.type "frame") none Data.plain #[(sr 27),(sr 3),(sr 24),none,(some (sv "stitchroom.errors" 194)),none,(sr 0)]) (nd (Obj.mk (.type "type") none (Data.cls (ClassData.mk (so "NoStitch") [(rf 31)] [(rf 44),(rf 31),(.type "ValueError"),(.type "Exception"),(.type "BaseException"),(.type "object")] 43 (so "NoStitch") true [] [] false none false)) #[(sr 35),none,(some (sv "NoStitch" 214)),(some (sv "NoStitch" 222)),(some (.builtin "ValueError.__new__")),(some bT)]) (nd (Obj.mk (.type "type") none (Data.cls (ClassData.mk (so "NoPattern") [(rf 31)] [(rf 76),(rf 31),(.type "ValueError"),(.type "Exception"),(.type "BaseException"),(.type "object")] 75 (so "NoPattern") true [] [] false none false)) #[(sr 67),none,(some (sv "NoPattern" 255)),(some (sv "NoPattern" 263)),(some (.builtin "ValueError.__new__")),(some bT)]) (nd (Obj.mk (.type "frame") none Data.plain #[(sr 139),(sr 3),(sr 136),none,(some (sv "stitchroom.errors" 194)),none,(sr 0)]) (nl (fo "mirrored" "Plain.mirrored" (Qi (top 19) 5) .none "stitchroom.stitches" 425 267)) .nil) (nl (oc (#[(sv "ties" 460),(sv "Stitch.ties" 461),(sc 462),(i0 48),(i0 1),z0,z0,(i0 3),(rf 199),bT,(i0 181),(rf 200),.none,(rf 201),(rf 202),(rf 203),(i0 464),(i0 48),(sc 465)])))) (nd (ob "super" (Data.fields #[(rf 107),(rf 107),(rf 107)])) (nl (tu #[] 0)) (nl (tu #[(sv "self" 505)] 0)))) (nd (oc (#[(sv "__init__" 242),(sv "NoSum.__init__" 243),(sc 244),(i0 11),(i0 2),z0,z0,(i0 3),(rf 55),bT,(i0 181),(rf 56),.none,(rf 57),(rf 58),(rf 59),(i0 247),(i0 11),(sc 248)])) (nd (n3 P) (nl (tu #[] 0)) (nl (tu #[(rf 215)] 0))) (nd (ob "dict" (Data.dict #[(dm P 343 "stitchroom.errors" 194),(dq P 345 "NoChart" 344),(dl P 347 29 346),(ds P 348 129)] 4)) (nl (ob "builtin_function_or_method" (Data.fields #[(.builtin "object.__init_subclass__"),(rf 186)]))) (nl (fr (so "ties") (so "Plain.ties") st4 .none .none))))))) (nd (W.boot_o_6 P) (nd (W.boot_o_10 P) (nd (tu #[] 0) (nd (ob "builtin_function_or_method" (Data.fields #[(.builtin "object.__init_subclass__"),(rf 31)])) (nd (ob "builtin_function_or_method" (Data.fields #[(.builtin "object.__init_subclass__"),(rf 64)])) (nd (ob "dict" (Data.dict #[(dm P 343 "stitchroom.errors" 194),(dl P 347 29 346),(ds P 348 129),(dd P 349)] 2)) (nl (tu #[] 0)) .nil) (nl (ob "dict" (Data.dict #[(dm P 455 "stitchroom.stitches" 425),(dq P 457 "Stitch" 456),(dl P 459 46 458),(dR P "ties" 466 205),(dR P "ends" 473 212),(ds P 474 213)] 6)))) (nd (tu #[] 0) (nl (Obj.mk (.type "type") none (Data.cls (ClassData.mk (so "NoRow") [(rf 31)] [(rf 162),(rf 31),(.type "ValueError"),(.type "Exception"),(.type "BaseException"),(.type "object")] 161 (so "NoRow") true [] [] false none false)) #[(sr 153),none,(some (sv "NoRow" 377)),(some (sv "NoRow" 385)),(some (.builtin "ValueError.__new__")),(some bT)])) (nl (Obj.mk (.type "frame") none Data.plain #[(sr 225),(sr 3),(sr 222),none,(some (sv "stitchroom.stitches" 425)),none,(sr 0)])))) (nd (tu #[] 0) (nd (tu #[] 0) (nd (oc (#[(sv "__init__" 364),(sv "Tangle.__init__" 365),(sc 366),(i0 33),(i0 2),z0,z0,(i0 3),(rf 141),bT,(i0 181),(rf 142),.none,(rf 143),(rf 144),(rf 145),(i0 369),(i0 33),(sc 370)])) (nl (oc (#[(sv "turned" 537),(sv "Plain.turned" 538),(sc 539),(i0 73),(i0 1),z0,z0,(i0 3),(rf 269),bT,(i0 181),(rf 270),.none,(rf 271),(rf 272),(rf 273),(i0 541),(i0 73),(sc 542)]))) .nil) (nl (fr (so "ends") (so "Stitch.ends") st1 .none .none))) (nd (n0 P) (nl (n3 P)) (nl (n0 P))))) (nd (n0 P) (nd (tu #[] 0) (nd (tu #[] 0) (nd (Obj.mk .none none (Data.fields #[(i0 33),(i0 4),(rf 146)]) #[]) (nl (fr (so "mirrored") (so "Plain.mirrored") (Qi (top 19) 5) .none .none)) .nil) (nl (tu #[] 0))) (nd (ob "dict" (Data.dict #[(dm P 294 "stitchroom.errors" 194),(dl P 298 18 297),(dR P "__init__" 310 104),(ds P 316 105),(dd P 317)] 2)) (nl (oc (#[(sv "NoName" 395),(sv "NoName" 396),(sc 397),(i0 38),z0,z0,z0,z0,(rf 168),bF,(i0 181),(rf 169),.none,.none,.none,.none,(i0 398),(i0 38),(sc 399)]))) (nl (tu #[] 0)))) (nd (tu #[] 0) (nd (ob "builtin_function_or_method" (Data.fields #[(.builtin "object.__init_subclass__"),(rf 88)])) (nl (n3 P)) (nl (ob "super" (Data.fields #[(rf 215),(rf 215),(rf 215)])))) (nd (n4 P) (nl (Obj.mk (.type "type") none (Data.cls (ClassData.mk (so "NoPlace") [(rf 31)] [(rf 186),(rf 31),(.type "ValueError"),(.type "Exception"),(.type "BaseException"),(.type "object")] 185 (so "NoPlace") true [] [] false none false)) #[(sr 177),none,(some (sv "NoPlace" 409)),(some (sv "NoPlace" 417)),(some (.builtin "ValueError.__new__")),(some bT)])) (nl (tu #[(sv "self" 519)] 0)))))) (nd (n2 P) (nd (tu #[(.type "ValueError")] 0) (nd (tu #[] 0) (nd (tu #[] 0) (nd (n4 P) (nl (tu #[] 0)) .nil) (nl (Obj.mk (.type "frame") none Data.plain #[(sr 197),(sr 3),(sr 194),none,(some (sv "stitchroom.stitches" 425)),none,(sr 0)]))) (nd (fr (so "__init__") (so "Miscount.__init__") (Qi (top 7) 0) .none .none) (nl (n3 P)) (nl (tu #[] 0)))) (nd (tu #[.none] 0) (nd (tu #[] 0) (nd (Obj.mk (.type "type") none (Data.cls (ClassData.mk (so "Tangle") [(rf 31)] [(rf 150),(rf 31),(.type "ValueError"),(.type "Exception"),(.type "BaseException"),(.type "object")] 149 (so "Tangle") true [] [] false none false)) #[(sr 134),none,(some (sv "Tangle" 352)),(some (sv "Tangle" 360)),(some (.builtin "ValueError.__new__")),(some bT)]) (nl (Obj.mk (.type "type") none (Data.cls (ClassData.mk (so "Plain") [(rf 215)] [(rf 278),(rf 215),(.type "object")] 277 (so "Plain") true [] [] false none false)) #[(sr 220),none,(some (sv "Plain" 482)),(some (sv "Plain" 490)),(some (.builtin "object.__new__")),(some bT)])) .nil) (nl (ob "dict" (Data.dict #[(dm P 455 "stitchroom.stitches" 425),(dl P 459 46 458),(dR P "ties" 466 205),(dR P "ends" 473 212),(ds P 474 213),(dR P "__dict__" 476 216),(dR P "__weakref__" 478 217),(dd P 479)] 4)))) (nd (ob "dict" (Data.dict #[(dm P 327 "stitchroom.errors" 194),(dl P 331 27 330),(ds P 332 117),(dd P 333)] 2)) (nl (oc (#[(sv "NoPlace" 411),(sv "NoPlace" 412),(sc 413),(i0 40),z0,z0,z0,z0,(rf 180),bF,(i0 181),(rf 181),.none,.none,.none,.none,(i0 414),(i0 40),(sc 415)]))) (nl (oc (#[(sv "gives" 509),(sv "Plain.gives" 510),(sc 511),(i0 61),(i0 1),z0,z0,(i0 3),(rf 241),bT,(i0 181),(rf 242),.none,(rf 243),(rf 244),(rf 245),(i0 513),(i0 61),(sc 514)])))))) (nd (ob "dict" (Data.dict #[(dm P 203 "stitchroom.errors" 194),(dl P 207 5 206),(ds P 208 29),(dR P "__weakref__" 210 32),(dd P 211)] 3)) (nd (ob "builtin_function_or_method" (Data.fields #[(.builtin "object.__init_subclass__"),(rf 44)])) (nd (ob "builtin_function_or_method" (Data.fields #[(.builtin "object.__init_subclass__"),(rf 76)])) (nd (n0 P) (nl (n0 P)) .nil) (nl (tu #[] 0))) (nd (n4 P) (nl (Obj.mk (.type "type") none (Data.cls (ClassData.mk (so "NoName") [(rf 31)] [(rf 174),(rf 31),(.type "ValueError"),(.type "Exception"),(.type "BaseException"),(.type "object")] 173 (so "NoName") true [] [] false none false)) #[(sr 165),none,(some (sv "NoName" 393)),(some (sv "NoName" 401)),(some (.builtin "ValueError.__new__")),(some bT)])) (nl (fr (so "takes") (so "Plain.takes") st3 .none .none)))) (nd (tu #[(sv "row" 250)] 0) (nd (tu #[] 0) (nl (oc (#[(sv "NoRow" 379),(sv "NoRow" 380),(sc 381),(i0 36),z0,z0,z0,z0,(rf 156),bF,(i0 181),(rf 157),.none,.none,.none,.none,(i0 382),(i0 36),(sc 383)]))) (nl (ob "dict" (Data.dict #[(dm P 489 "stitchroom.stitches" 425),(dq P 491 "Plain" 490),(dl P 493 53 492),(dR P "__init__" 501 233),(dR P "takes" 508 240),(dR P "gives" 515 247),(dR P "ties" 522 254),(dR P "mark" 529 261),(dR P "mirrored" 536 268),(dR P "turned" 543 275),(ds P 545 276)] 11)))) (nd (n0 P) (nl (ob "dict" (Data.dict #[(DictEntry.mk 1 (.int 1 432) (sv "k" 433)),(DictEntry.mk (-2) (.int (-1) 435) (sv "p" 436))] 2))) (nl (fo "ties" "Plain.ties" st4 .none "stitchroom.stitches" 425 253)))))))))
noncomputable abbrev S1(w:World)(os:OsState):W.SharedT:=⟨T1 w.params,281,(Life.mk [] [] [] 0 [] [] Bool.false #[] [] 0 Bool.false Bool.false Bool.false 0 [2000,10,10] Bool.false 0 Bool.true [] [] 0 Bool.false),Array.mk [],(Drawn.mk 0 0 0 0),549,os⟩
noncomputable abbrev PA(w:World):Prop:=∀os:OsState,Iv.topGoT treeTable hp w 11 hn6 12 (hB.at w os) (W.topStub hp)=some (Sa w os,⟨denote treeTable hcd,hcd,(Pos.mk 0 0 0 0),[W.topFrame hqp]⟩)
theorem QiZ:∀w,PA w:=fun w os=>by kernel_rfl
noncomputable abbrev PB(w:World):Prop:=∀os:OsState,Iv.segRunT treeTable hp w 11 hn6 1 1 (Sa w os) (W.blockOf hbd eV hcd (Pos.mk 0 0 0 0) [W.topFrame hqp])=some (.next,Sb w os,hcd,(Pos.mk 0 0 0 0))
theorem QiY:∀w,PB w:=fun w os=>by kernel_rfl
noncomputable abbrev PC1(w:World):Prop:=∀os:OsState,Iv.segRunT treeTable hp w 11 hn6 1 3460 (Sb w os) (W.piecesOf (hbd.take 20) eV hcd (Pos.mk 0 0 0 0) [W.topFrame hqp])=some (.next,S1 w os,hcd,(Pos.mk 53 0 74 16))
theorem QeB(w:World):PC1 (w.withFollow "special-get-raises" false):=fun os=>by kernel_rfl
theorem QeA(w:World):PC1 (w.withFollow "special-get-raises" true):=fun os=>by kernel_rfl
theorem QgR:∀w,PC1 w:=W.byRow2 "special-get-raises" QeB QeA
noncomputable abbrev PF(w:World):Prop:=∀os:OsState,(Iv.topRunT treeTable hp w 11 hn6 11837 (S1 w os) (W.restOf (hbd.drop 20) eV hcd (Pos.mk 53 0 74 16) [W.topFrame hqp])).map (Iv.vF hp hq w)=some (Iv.gF hq)
theorem QgQ(w:World):PF (w.withFollow "special-get-raises" false):=fun os=>by kernel_rfl
theorem QgP(w:World):PF (w.withFollow "special-get-raises" true):=fun os=>by kernel_rfl
theorem QiX:∀w,PF w:=W.byRow2 "special-get-raises" QgQ QgP
noncomputable abbrev PK(w:World):Prop:=∀os:OsState,(Iv.topRunT treeTable hp w 11 hn6 11837 (S1 w os) (W.restOf (hbd.drop 20) eV hcd (Pos.mk 53 0 74 16) [W.topFrame hqp])).map (Iv.vK hp hq hlo hXt true)=some (true,true,true)
theorem QgM(w:World):PK (w.withFollow "special-get-raises" false):=fun os=>by kernel_rfl
theorem QgL(w:World):PK (w.withFollow "special-get-raises" true):=fun os=>by kernel_rfl
theorem QiV:∀w,PK w:=W.byRow2 "special-get-raises" QgM QgL
noncomputable abbrev PL(w:World):Prop:=∀os:OsState,(Iv.topRunT treeTable hp w 11 hn6 11837 (S1 w os) (W.restOf (hbd.drop 20) eV hcd (Pos.mk 53 0 74 16) [W.topFrame hqp])).map (Iv.vL hq hlo)=some (Iv.gL hq hlo)
theorem QgK(w:World):PL (w.withFollow "special-get-raises" false):=fun os=>by kernel_rfl
theorem QgJ(w:World):PL (w.withFollow "special-get-raises" true):=fun os=>by kernel_rfl
theorem QiU:∀w,PL w:=W.byRow2 "special-get-raises" QgK QgJ
noncomputable abbrev PG(w:World):Prop:=∀os:OsState,(Iv.topRunT treeTable hp w 11 hn6 11837 (S1 w os) (W.restOf (hbd.drop 20) eV hcd (Pos.mk 53 0 74 16) [W.topFrame hqp])).map (fun s=>hYf s.abs)=some (hYa w)
theorem QgO(w:World):PG (w.withFollow "special-get-raises" false):=fun os=>by kernel_rfl
theorem QgN(w:World):PG (w.withFollow "special-get-raises" true):=fun os=>by kernel_rfl
theorem QiW:∀w,PG w:=W.byRow2 "special-get-raises" QgO QgN
theorem Qng(w:World)(os:OsState):Iv.Gl2 hp w 11 hn6 (Iv.seenAll hp hq hlo hXt hYf true w) (true,W.openGood hq hlo,hYa w) 15310 (hB.at w os) (W.topStub hp):=by
 have f:=Iv.ch_fin (F:=Iv.seenAll hp hq hlo hXt hYf true w) (a:=(true,W.openGood hq hlo,hYa w)) (Iv.looks3 (QiX w os) (QiV w os) (QiU w os) (QiW w os));have f:=Iv.ch_cut 20 (QgR w os) f;exact Iv.ch_pre (QiZ w os) (Iv.ch_blk (QiY w os) f)
theorem hleft:W.LeftO hp hq hlo hXt hYf hYa 15310 true:=Iv.left_pieces hop (by decide) hfm hbo hsz Qng
noncomputable abbrev jj(n:Int):U:=.int n 0
noncomputable abbrev uUa:U:=.str [99,114,111,115,115]
noncomputable abbrev uUb:U:=.str []
noncomputable abbrev uUc:U:=.str [98]
noncomputable abbrev uUd:U:=.str [102]
noncomputable abbrev uUe:U:=.str [113]
noncomputable abbrev uUf:U:=.str [99]
noncomputable abbrev uUg:U:=.str [108,101,97,110]
noncomputable abbrev uUh:U:=.str [107,101,101,112]
noncomputable abbrev uUi:U:=.str [98,114,105,110,103]
noncomputable abbrev uUj:U:=.str [107]
noncomputable abbrev uUk:U:=.str [112]
noncomputable abbrev uUl:U:=.str [108]
noncomputable abbrev uUm:U:=.str [114]
noncomputable abbrev uUn:U:=.str [103,114,111,119]
noncomputable abbrev uUo:U:=.str [115,108,105,112]
noncomputable abbrev uUp:U:=.str [111,118,101,114]
noncomputable abbrev uUq:U:=.str [111,102,102]
noncomputable abbrev uUr:U:=.str [112,108,97,105,110]
noncomputable def kd:O:=.dic [((.str [99,49,102,49]),(.ref 1)),((.str [113,50,102,50]),(.ref 4)),((.str [112,51,108]),(.ref 7)),((.str [99,49,98,49]),(.ref 10)),((.str [113,50,98,50]),(.ref 13)),((.str [104,122]),(.ref 17)),((.str [113,49,102,49]),(.ref 20)),((.str [107,52,108]),(.ref 23)),((.str [99,52,102,51]),(.ref 26)),((.str [113,49,98,49]),(.ref 29)),((.str [111]),(.ref 33)),((.str [99,52,98,51]),(.ref 36)),((.str [107,50,114]),(.ref 39)),((.str [99,51,102,50]),(.ref 42)),((.str [113,52,102,51]),(.ref 45)),((.str [112,120,51]),(.ref 48)),((.str [99,51,98,50]),(.ref 51)),((.str [113,52,98,51]),(.ref 54)),((.str [99,50,102,49]),(.ref 57)),((.str [113,51,102,50]),(.ref 60)),((.str [112,52,108]),(.ref 63)),((.str [99,50,98,49]),(.ref 66)),((.str [113,51,98,50]),(.ref 69)),((.str [102,119]),(.ref 73)),((.str [113,50,102,49]),(.ref 76)),((.str [112,50,114]),(.ref 79)),((.str [99,49,102,52]),(.ref 82)),((.str [113,50,98,49]),(.ref 85)),(uUc,(.ref 89)),((.str [99,49,98,52]),(.ref 92)),((.str [107,51,114]),(.ref 95)),((.str [99,52,102,50]),(.ref 98)),((.str [113,49,102,52]),(.ref 101)),((.str [112,120,52]),(.ref 104)),((.str [99,52,98,50]),(.ref 107)),((.str [113,49,98,52]),(.ref 110)),((.str [99,51,102,49]),(.ref 113)),((.str [113,52,102,50]),(.ref 116)),((.str [107,120,50]),(.ref 119)),((.str [99,51,98,49]),(.ref 122)),((.str [113,52,98,50]),(.ref 125)),((.str [102,120]),(.ref 129)),((.str [113,51,102,49]),(.ref 132)),((.str [112,51,114]),(.ref 135)),((.str [99,50,102,52]),(.ref 138)),((.str [113,51,98,49]),(.ref 141)),((.str [104,119]),(.ref 145)),((.str [99,50,98,52]),(.ref 148)),((.str [107,52,114]),(.ref 151)),((.str [99,49,102,51]),(.ref 154)),((.str [113,50,102,52]),(.ref 157)),(uUj,(.ref 160)),((.str [99,49,98,51]),(.ref 163)),((.str [113,50,98,52]),(.ref 166)),((.str [99,52,102,49]),(.ref 169)),((.str [113,49,102,51]),(.ref 172)),((.str [107,120,51]),(.ref 175)),((.str [99,52,98,49]),(.ref 178)),((.str [113,49,98,51]),(.ref 181)),((.str [102,121]),(.ref 185)),((.str [113,52,102,49]),(.ref 188)),((.str [112,52,114]),(.ref 191)),((.str [99,51,102,52]),(.ref 194)),((.str [113,52,98,49]),(.ref 197)),((.str [104,120]),(.ref 201)),((.str [99,51,98,52]),(.ref 204)),((.str [107,50,108]),(.ref 207)),((.str [99,50,102,51]),(.ref 210)),((.str [113,51,102,52]),(.ref 213)),(uUk,(.ref 216)),((.str [99,50,98,51]),(.ref 219)),((.str [113,51,98,52]),(.ref 222)),((.str [99,49,102,50]),(.ref 225)),((.str [113,50,102,51]),(.ref 228)),((.str [107,120,52]),(.ref 231)),((.str [99,49,98,50]),(.ref 234)),((.str [113,50,98,51]),(.ref 237)),((.str [102,122]),(.ref 241)),((.str [113,49,102,50]),(.ref 244)),((.str [112,50,108]),(.ref 247)),((.str [99,52,102,52]),(.ref 250)),((.str [113,49,98,50]),(.ref 253)),((.str [104,121]),(.ref 257)),((.str [99,52,98,52]),(.ref 260)),((.str [107,51,108]),(.ref 263)),((.str [99,51,102,51]),(.ref 266)),((.str [113,52,102,52]),(.ref 269)),((.str [115]),(.ref 273)),((.str [99,51,98,51]),(.ref 276)),((.str [113,52,98,52]),(.ref 279)),((.str [99,50,102,50]),(.ref 282)),((.str [113,51,102,51]),(.ref 285)),((.str [112,120,50]),(.ref 288)),((.str [99,50,98,50]),(.ref 291)),((.str [113,51,98,51]),(.ref 294))]
noncomputable def Qnp:Hs:=[kd,.tup [uUa,(jj 1),(jj 1),uUd,(jj 1)],.tup [uUa,(jj 1),(jj 1),uUd,(jj 1)],.lst [uUe,uUb,uUf],.tup [uUa,(jj 2),(jj 2),uUd,(jj (-1))],.tup [uUa,(jj 2),(jj 2),uUd,(jj (-1))],.lst [uUe,uUb,uUf],.tup [uUg,(jj 3),uUl,(jj (-1))],.tup [uUg,(jj 3),uUl,(jj (-1))],.lst [uUk,uUb,uUj],.tup [uUa,(jj 1),(jj 1),uUc,(jj 1)],.tup [uUa,(jj 1),(jj 1),uUc,(jj 1)],.lst [uUe,uUb,uUf],.tup [uUa,(jj 2),(jj 2),uUc,(jj (-1))],.tup [uUa,(jj 2),(jj 2),uUc,(jj (-1))],.lst [uUe,uUb,uUf],.lst [uUh,uUi],.tup [uUh,(.str [122])],.lst [uUh,uUi],.tup [uUh,(.str [122])],.tup [uUa,(jj 1),(jj 1),uUd,(jj (-1))],.tup [uUa,(jj 1),(jj 1),uUd,(jj (-1))],.lst [uUe,uUb,uUf],.tup [uUg,(jj 4),uUl,(jj 1)],.tup [uUg,(jj 4),uUl,(jj 1)],.lst [uUk,uUb,uUj],.tup [uUa,(jj 4),(jj 3),uUd,(jj 1)],.tup [uUa,(jj 4),(jj 3),uUd,(jj 1)],.lst [uUe,uUb,uUf],.tup [uUa,(jj 1),(jj 1),uUc,(jj (-1))],.tup [uUa,(jj 1),(jj 1),uUc,(jj (-1))],.lst [uUe,uUb,uUf],.lst [uUo,uUp,uUq]]
noncomputable def Qno:Hs:=[.tup [uUp],.lst [uUo,uUp,uUq],.tup [uUp],.tup [uUa,(jj 4),(jj 3),uUc,(jj 1)],.tup [uUa,(jj 4),(jj 3),uUc,(jj 1)],.lst [uUe,uUb,uUf],.tup [uUg,(jj 2),uUm,(jj 1)],.tup [uUg,(jj 2),uUm,(jj 1)],.lst [uUk,uUb,uUj],.tup [uUa,(jj 3),(jj 2),uUd,(jj 1)],.tup [uUa,(jj 3),(jj 2),uUd,(jj 1)],.lst [uUe,uUb,uUf],.tup [uUa,(jj 4),(jj 3),uUd,(jj (-1))],.tup [uUa,(jj 4),(jj 3),uUd,(jj (-1))],.lst [uUe,uUb,uUf],.tup [uUn,(jj 3),(jj (-1))],.tup [uUn,(jj 3),(jj (-1))],.lst [uUk,uUb,uUj],.tup [uUa,(jj 3),(jj 2),uUc,(jj 1)],.tup [uUa,(jj 3),(jj 2),uUc,(jj 1)],.lst [uUe,uUb,uUf],.tup [uUa,(jj 4),(jj 3),uUc,(jj (-1))],.tup [uUa,(jj 4),(jj 3),uUc,(jj (-1))],.lst [uUe,uUb,uUf],.tup [uUa,(jj 2),(jj 1),uUd,(jj 1)],.tup [uUa,(jj 2),(jj 1),uUd,(jj 1)],.lst [uUe,uUb,uUf],.tup [uUa,(jj 3),(jj 2),uUd,(jj (-1))],.tup [uUa,(jj 3),(jj 2),uUd,(jj (-1))],.lst [uUe,uUb,uUf],.tup [uUg,(jj 4),uUl,(jj (-1))],.tup [uUg,(jj 4),uUl,(jj (-1))],.lst [uUk,uUb,uUj]]
noncomputable def Qnn:Hs:=[.tup [uUa,(jj 2),(jj 1),uUc,(jj 1)],.tup [uUa,(jj 2),(jj 1),uUc,(jj 1)],.lst [uUe,uUb,uUf],.tup [uUa,(jj 3),(jj 2),uUc,(jj (-1))],.tup [uUa,(jj 3),(jj 2),uUc,(jj (-1))],.lst [uUe,uUb,uUf],.lst [uUh,uUi],.tup [uUi,(.str [119])],.lst [uUh,uUi],.tup [uUi,(.str [119])],.tup [uUa,(jj 2),(jj 1),uUd,(jj (-1))],.tup [uUa,(jj 2),(jj 1),uUd,(jj (-1))],.lst [uUe,uUb,uUf],.tup [uUg,(jj 2),uUm,(jj (-1))],.tup [uUg,(jj 2),uUm,(jj (-1))],.lst [uUk,uUb,uUj],.tup [uUa,(jj 1),(jj 4),uUd,(jj 1)],.tup [uUa,(jj 1),(jj 4),uUd,(jj 1)],.lst [uUe,uUb,uUf],.tup [uUa,(jj 2),(jj 1),uUc,(jj (-1))],.tup [uUa,(jj 2),(jj 1),uUc,(jj (-1))],.lst [uUe,uUb,uUf],.lst [uUo,uUp,uUq],.tup [uUq],.lst [uUo,uUp,uUq],.tup [uUq],.tup [uUa,(jj 1),(jj 4),uUc,(jj 1)],.tup [uUa,(jj 1),(jj 4),uUc,(jj 1)],.lst [uUe,uUb,uUf],.tup [uUg,(jj 3),uUm,(jj 1)],.tup [uUg,(jj 3),uUm,(jj 1)],.lst [uUk,uUb,uUj],.tup [uUa,(jj 4),(jj 2),uUd,(jj 1)]]
noncomputable def Qnm:Hs:=[.tup [uUa,(jj 4),(jj 2),uUd,(jj 1)],.lst [uUe,uUb,uUf],.tup [uUa,(jj 1),(jj 4),uUd,(jj (-1))],.tup [uUa,(jj 1),(jj 4),uUd,(jj (-1))],.lst [uUe,uUb,uUf],.tup [uUn,(jj 4),(jj (-1))],.tup [uUn,(jj 4),(jj (-1))],.lst [uUk,uUb,uUj],.tup [uUa,(jj 4),(jj 2),uUc,(jj 1)],.tup [uUa,(jj 4),(jj 2),uUc,(jj 1)],.lst [uUe,uUb,uUf],.tup [uUa,(jj 1),(jj 4),uUc,(jj (-1))],.tup [uUa,(jj 1),(jj 4),uUc,(jj (-1))],.lst [uUe,uUb,uUf],.tup [uUa,(jj 3),(jj 1),uUd,(jj 1)],.tup [uUa,(jj 3),(jj 1),uUd,(jj 1)],.lst [uUe,uUb,uUf],.tup [uUa,(jj 4),(jj 2),uUd,(jj (-1))],.tup [uUa,(jj 4),(jj 2),uUd,(jj (-1))],.lst [uUe,uUb,uUf],.tup [uUn,(jj 2),(jj 1)],.tup [uUn,(jj 2),(jj 1)],.lst [uUk,uUb,uUj],.tup [uUa,(jj 3),(jj 1),uUc,(jj 1)],.tup [uUa,(jj 3),(jj 1),uUc,(jj 1)],.lst [uUe,uUb,uUf],.tup [uUa,(jj 4),(jj 2),uUc,(jj (-1))],.tup [uUa,(jj 4),(jj 2),uUc,(jj (-1))],.lst [uUe,uUb,uUf],.lst [uUh,uUi],.tup [uUi,(.str [120])],.lst [uUh,uUi],.tup [uUi,(.str [120])]]
noncomputable def Qnl:Hs:=[.tup [uUa,(jj 3),(jj 1),uUd,(jj (-1))],.tup [uUa,(jj 3),(jj 1),uUd,(jj (-1))],.lst [uUe,uUb,uUf],.tup [uUg,(jj 3),uUm,(jj (-1))],.tup [uUg,(jj 3),uUm,(jj (-1))],.lst [uUk,uUb,uUj],.tup [uUa,(jj 2),(jj 4),uUd,(jj 1)],.tup [uUa,(jj 2),(jj 4),uUd,(jj 1)],.lst [uUe,uUb,uUf],.tup [uUa,(jj 3),(jj 1),uUc,(jj (-1))],.tup [uUa,(jj 3),(jj 1),uUc,(jj (-1))],.lst [uUe,uUb,uUf],.lst [uUh,uUi],.tup [uUh,(.str [119])],.lst [uUh,uUi],.tup [uUh,(.str [119])],.tup [uUa,(jj 2),(jj 4),uUc,(jj 1)],.tup [uUa,(jj 2),(jj 4),uUc,(jj 1)],.lst [uUe,uUb,uUf],.tup [uUg,(jj 4),uUm,(jj 1)],.tup [uUg,(jj 4),uUm,(jj 1)],.lst [uUk,uUb,uUj],.tup [uUa,(jj 1),(jj 3),uUd,(jj 1)],.tup [uUa,(jj 1),(jj 3),uUd,(jj 1)],.lst [uUe,uUb,uUf],.tup [uUa,(jj 2),(jj 4),uUd,(jj (-1))],.tup [uUa,(jj 2),(jj 4),uUd,(jj (-1))],.lst [uUe,uUb,uUf],.tup [uUr,(jj 1)],.tup [uUr,(jj 1)],.lst [uUk,uUb,uUj],.tup [uUa,(jj 1),(jj 3),uUc,(jj 1)],.tup [uUa,(jj 1),(jj 3),uUc,(jj 1)]]
noncomputable def Qnk:Hs:=[.lst [uUe,uUb,uUf],.tup [uUa,(jj 2),(jj 4),uUc,(jj (-1))],.tup [uUa,(jj 2),(jj 4),uUc,(jj (-1))],.lst [uUe,uUb,uUf],.tup [uUa,(jj 4),(jj 1),uUd,(jj 1)],.tup [uUa,(jj 4),(jj 1),uUd,(jj 1)],.lst [uUe,uUb,uUf],.tup [uUa,(jj 1),(jj 3),uUd,(jj (-1))],.tup [uUa,(jj 1),(jj 3),uUd,(jj (-1))],.lst [uUe,uUb,uUf],.tup [uUn,(jj 3),(jj 1)],.tup [uUn,(jj 3),(jj 1)],.lst [uUk,uUb,uUj],.tup [uUa,(jj 4),(jj 1),uUc,(jj 1)],.tup [uUa,(jj 4),(jj 1),uUc,(jj 1)],.lst [uUe,uUb,uUf],.tup [uUa,(jj 1),(jj 3),uUc,(jj (-1))],.tup [uUa,(jj 1),(jj 3),uUc,(jj (-1))],.lst [uUe,uUb,uUf],.lst [uUh,uUi],.tup [uUi,(.str [121])],.lst [uUh,uUi],.tup [uUi,(.str [121])],.tup [uUa,(jj 4),(jj 1),uUd,(jj (-1))],.tup [uUa,(jj 4),(jj 1),uUd,(jj (-1))],.lst [uUe,uUb,uUf],.tup [uUg,(jj 4),uUm,(jj (-1))],.tup [uUg,(jj 4),uUm,(jj (-1))],.lst [uUk,uUb,uUj],.tup [uUa,(jj 3),(jj 4),uUd,(jj 1)],.tup [uUa,(jj 3),(jj 4),uUd,(jj 1)],.lst [uUe,uUb,uUf],.tup [uUa,(jj 4),(jj 1),uUc,(jj (-1))]]
noncomputable def Qnj:Hs:=[.tup [uUa,(jj 4),(jj 1),uUc,(jj (-1))],.lst [uUe,uUb,uUf],.lst [uUh,uUi],.tup [uUh,(.str [120])],.lst [uUh,uUi],.tup [uUh,(.str [120])],.tup [uUa,(jj 3),(jj 4),uUc,(jj 1)],.tup [uUa,(jj 3),(jj 4),uUc,(jj 1)],.lst [uUe,uUb,uUf],.tup [uUg,(jj 2),uUl,(jj 1)],.tup [uUg,(jj 2),uUl,(jj 1)],.lst [uUk,uUb,uUj],.tup [uUa,(jj 2),(jj 3),uUd,(jj 1)],.tup [uUa,(jj 2),(jj 3),uUd,(jj 1)],.lst [uUe,uUb,uUf],.tup [uUa,(jj 3),(jj 4),uUd,(jj (-1))],.tup [uUa,(jj 3),(jj 4),uUd,(jj (-1))],.lst [uUe,uUb,uUf],.tup [uUr,(jj (-1))],.tup [uUr,(jj (-1))],.lst [uUk,uUb,uUj],.tup [uUa,(jj 2),(jj 3),uUc,(jj 1)],.tup [uUa,(jj 2),(jj 3),uUc,(jj 1)],.lst [uUe,uUb,uUf],.tup [uUa,(jj 3),(jj 4),uUc,(jj (-1))],.tup [uUa,(jj 3),(jj 4),uUc,(jj (-1))],.lst [uUe,uUb,uUf],.tup [uUa,(jj 1),(jj 2),uUd,(jj 1)],.tup [uUa,(jj 1),(jj 2),uUd,(jj 1)],.lst [uUe,uUb,uUf],.tup [uUa,(jj 2),(jj 3),uUd,(jj (-1))],.tup [uUa,(jj 2),(jj 3),uUd,(jj (-1))],.lst [uUe,uUb,uUf]]
noncomputable def Qni:Hs:=[.tup [uUn,(jj 4),(jj 1)],.tup [uUn,(jj 4),(jj 1)],.lst [uUk,uUb,uUj],.tup [uUa,(jj 1),(jj 2),uUc,(jj 1)],.tup [uUa,(jj 1),(jj 2),uUc,(jj 1)],.lst [uUe,uUb,uUf],.tup [uUa,(jj 2),(jj 3),uUc,(jj (-1))],.tup [uUa,(jj 2),(jj 3),uUc,(jj (-1))],.lst [uUe,uUb,uUf],.lst [uUh,uUi],.tup [uUi,(.str [122])],.lst [uUh,uUi],.tup [uUi,(.str [122])],.tup [uUa,(jj 1),(jj 2),uUd,(jj (-1))],.tup [uUa,(jj 1),(jj 2),uUd,(jj (-1))],.lst [uUe,uUb,uUf],.tup [uUg,(jj 2),uUl,(jj (-1))],.tup [uUg,(jj 2),uUl,(jj (-1))],.lst [uUk,uUb,uUj],.tup [uUa,(jj 4),(jj 4),uUd,(jj 1)],.tup [uUa,(jj 4),(jj 4),uUd,(jj 1)],.lst [uUe,uUb,uUf],.tup [uUa,(jj 1),(jj 2),uUc,(jj (-1))],.tup [uUa,(jj 1),(jj 2),uUc,(jj (-1))],.lst [uUe,uUb,uUf],.lst [uUh,uUi],.tup [uUh,(.str [121])],.lst [uUh,uUi],.tup [uUh,(.str [121])],.tup [uUa,(jj 4),(jj 4),uUc,(jj 1)],.tup [uUa,(jj 4),(jj 4),uUc,(jj 1)],.lst [uUe,uUb,uUf],.tup [uUg,(jj 3),uUl,(jj 1)]]
noncomputable def Qnh:Hs:=[.tup [uUg,(jj 3),uUl,(jj 1)],.lst [uUk,uUb,uUj],.tup [uUa,(jj 3),(jj 3),uUd,(jj 1)],.tup [uUa,(jj 3),(jj 3),uUd,(jj 1)],.lst [uUe,uUb,uUf],.tup [uUa,(jj 4),(jj 4),uUd,(jj (-1))],.tup [uUa,(jj 4),(jj 4),uUd,(jj (-1))],.lst [uUe,uUb,uUf],.lst [uUo,uUp,uUq],.tup [uUo],.lst [uUo,uUp,uUq],.tup [uUo],.tup [uUa,(jj 3),(jj 3),uUc,(jj 1)],.tup [uUa,(jj 3),(jj 3),uUc,(jj 1)],.lst [uUe,uUb,uUf],.tup [uUa,(jj 4),(jj 4),uUc,(jj (-1))],.tup [uUa,(jj 4),(jj 4),uUc,(jj (-1))],.lst [uUe,uUb,uUf],.tup [uUa,(jj 2),(jj 2),uUd,(jj 1)],.tup [uUa,(jj 2),(jj 2),uUd,(jj 1)],.lst [uUe,uUb,uUf],.tup [uUa,(jj 3),(jj 3),uUd,(jj (-1))],.tup [uUa,(jj 3),(jj 3),uUd,(jj (-1))],.lst [uUe,uUb,uUf],.tup [uUn,(jj 2),(jj (-1))],.tup [uUn,(jj 2),(jj (-1))],.lst [uUk,uUb,uUj],.tup [uUa,(jj 2),(jj 2),uUc,(jj 1)],.tup [uUa,(jj 2),(jj 2),uUc,(jj 1)],.lst [uUe,uUb,uUf],.tup [uUa,(jj 3),(jj 3),uUc,(jj (-1))],.tup [uUa,(jj 3),(jj 3),uUc,(jj (-1))],.lst [uUe,uUb,uUf]]
noncomputable def h0:Hs:=Qnp++(Qno++(Qnn++(Qnm++(Qnl++(Qnk++(Qnj++(Qni++(Qnh))))))))
noncomputable def mks:List (List Nat):=[[99,49,102,49],[113,50,102,50],[112,51,108],[99,49,98,49],[113,50,98,50],[104,122],[113,49,102,49],[107,52,108],[99,52,102,51],[113,49,98,49],[111],[99,52,98,51],[107,50,114],[99,51,102,50],[113,52,102,51],[112,120,51],[99,51,98,50],[113,52,98,51],[99,50,102,49],[113,51,102,50],[112,52,108],[99,50,98,49],[113,51,98,50],[102,119],[113,50,102,49],[112,50,114],[99,49,102,52],[113,50,98,49],[98],[99,49,98,52],[107,51,114],[99,52,102,50],[113,49,102,52],[112,120,52],[99,52,98,50],[113,49,98,52],[99,51,102,49],[113,52,102,50],[107,120,50],[99,51,98,49],[113,52,98,50],[102,120],[113,51,102,49],[112,51,114],[99,50,102,52],[113,51,98,49],[104,119],[99,50,98,52],[107,52,114],[99,49,102,51],[113,50,102,52],[107],[99,49,98,51],[113,50,98,52],[99,52,102,49],[113,49,102,51],[107,120,51],[99,52,98,49],[113,49,98,51],[102,121],[113,52,102,49],[112,52,114],[99,51,102,52],[113,52,98,49],[104,120],[99,51,98,52],[107,50,108],[99,50,102,51],[113,51,102,52],[112],[99,50,98,51],[113,51,98,52],[99,49,102,50],[113,50,102,51],[107,120,52],[99,49,98,50],[113,50,98,51],[102,122],[113,49,102,50],[112,50,108],[99,52,102,52],[113,49,98,50],[104,121],[99,52,98,52],[107,51,108],[99,51,102,51],[113,52,102,52],[115],[99,51,98,51],[113,52,98,52],[99,50,102,50],[113,51,102,51],[112,120,50],[99,50,98,50],[113,51,98,51]]
noncomputable def sK:S:=b51.getD 1 .pass
theorem known(s:List U):ex (tb s) (Ql (tb s) 6) 98 sK [some .scr,some (.ref 0),none,none,none,none,none] [.dic []]=some (.next,[some .scr,some (.ref 0),some (.int 94 0),none,none,none,none],h0):=by kernel_rfl
noncomputable def bdy:List S:=match b51 with | [_,_,.loopD _ _ b,_]=>b | _=>[]
noncomputable def okB:List S:=match bdy with | [_,.ite _ _ b]=>b | _=>[]
noncomputable def chk(s:List U)(c:Int)(x2 x5 x6:Option U)(x:List Nat):Bool:=match exs (tb s) (Ql (tb s) 6) 93 okB [some .scr,some (.ref 0),x2,some (.int c 0),some (.str x),x5,x6] h0 with
 | some (.next,ρ,h2)=>decide (h2.take h0.length=h0)&&decide (ρ.length=7)&&decide (ρ[0]?=some (some .scr))&&decide (ρ[1]?=some (some (.ref 0)))
 | _=>false
noncomputable def QkH(s:List U)(x:Int)(n:Nat):Bool:=match exs (tb s) (Ql (tb s) 5) 99 (b42.drop 1) [some (.int x 0),some (.int n 0),none] h0 with
 | some (.ret u,_,h1)=>(match Ql (tb s) 6 43 [u] h1 with
  | some (.str m,h2)=>decide (h2.take h0.length=h0)&&decide (m.length<=10)
  | _=>false)
 | _=>false
theorem QkG(s:List U)(x:Int):((List.range 95).all fun n=>QkH s x n)=true:=by kernel_rfl
theorem Qaw{f:List Nat->Bool}{l:List (List Nat)}(h1:(l.take 12).all f=true)(h2:(l.drop 12).all f=true):l.all f=true:=by
 rw [<-List.take_append_drop 12 l,List.all_append,h1,h2];rfl
noncomputable abbrev ckF(s:List U)(c:Int)(x2 x5 x6:Option U):List Nat->Bool:=fun x=>chk s c x2 x5 x6 x
noncomputable def lk1:List (List Nat):=mks.drop 12
noncomputable def lk2:List (List Nat):=lk1.drop 12
noncomputable def lk3:List (List Nat):=lk2.drop 12
noncomputable def lk4:List (List Nat):=lk3.drop 12
noncomputable def lk5:List (List Nat):=lk4.drop 12
noncomputable def lk6:List (List Nat):=lk5.drop 12
noncomputable def lk7:List (List Nat):=lk6.drop 12
theorem ck0(s:List U)(c:Int)(x2 x5 x6:Option U):(mks.take 12).all (ckF s c x2 x5 x6)=true:=by kernel_rfl
theorem ck1(s:List U)(c:Int)(x2 x5 x6:Option U):(lk1.take 12).all (ckF s c x2 x5 x6)=true:=by kernel_rfl
theorem ck2(s:List U)(c:Int)(x2 x5 x6:Option U):(lk2.take 12).all (ckF s c x2 x5 x6)=true:=by kernel_rfl
theorem ck3(s:List U)(c:Int)(x2 x5 x6:Option U):(lk3.take 12).all (ckF s c x2 x5 x6)=true:=by kernel_rfl
theorem ck4(s:List U)(c:Int)(x2 x5 x6:Option U):(lk4.take 12).all (ckF s c x2 x5 x6)=true:=by kernel_rfl
theorem ck5(s:List U)(c:Int)(x2 x5 x6:Option U):(lk5.take 12).all (ckF s c x2 x5 x6)=true:=by kernel_rfl
theorem ck6(s:List U)(c:Int)(x2 x5 x6:Option U):(lk6.take 12).all (ckF s c x2 x5 x6)=true:=by kernel_rfl
theorem ck7(s:List U)(c:Int)(x2 x5 x6:Option U):lk7.all (ckF s c x2 x5 x6)=true:=by kernel_rfl
theorem QnA(s:List U)(c:Int)(x2 x5 x6:Option U):(mks.all fun x=>chk s c x2 x5 x6 x)=true:=Qaw (ck0 s c x2 x5 x6) (Qaw (ck1 s c x2 x5 x6) (Qaw (ck2 s c x2 x5 x6) (Qaw (ck3 s c x2 x5 x6) (Qaw (ck4 s c x2 x5 x6) (Qaw (ck5 s c x2 x5 x6) (Qaw (ck6 s c x2 x5 x6) (ck7 s c x2 x5 x6)))))))
section
variable {T:Tbl}{n d:Nat}{hs:Hs}{cf:Cf}
theorem Qam(hF:T.fns=fnL)(i:Nat)(F:Fn)(h:fnL[i]?=some F):T.fns[i]?=some F:=by rw [hF];exact h
theorem eq_str{x y:List Nat}:eqA T (.str x) (.str y) hs=some (decide (x=y)):=rfl
theorem in3(hC:T.cons=Z1){a:Nat}:Zv T .In (.str [a]) (.con 3) hs=some (decide (a=107\/a=112)):=by
 simp [Zv,ZB,inD,Qe8,Y5,ZC,hC,Z1];by_cases h:a=107
 ·simp [h]
 ·by_cases h2:a=112
  ·simp [h2]
  ·simp [h,h2,Ne.symm h,Ne.symm h2]
theorem ni3(hC:T.cons=Z1){a:Nat}:Zv T .NotIn (.str [a]) (.con 3) hs=some (decide (¬(a=107\/a=112))):=by
 have:=in3 (hs:=hs) hC (a:=a);simp only [Zv]at this ⊢;simp [ZB,hC,Z1]at this ⊢;rw [this]
theorem in4(hC:T.cons=Z1){a:Nat}:Zv T .In (.str [a]) (.con 4) hs=some (decide (a=99\/a=113)):=by
 simp [Zv,ZB,inD,Qe8,Y5,ZC,hC,Z1];by_cases h:a=99
 ·simp [h]
 ·by_cases h2:a=113
  ·simp [h2]
  ·simp [h,h2,Ne.symm h,Ne.symm h2]
theorem in7(hC:T.cons=Z1){a:Nat}:Zv T .In (.str [a]) (.con 7) hs=some (decide (a=50\/a=51\/a=52)):=by
 simp [Zv,ZB,inD,Qe8,Y5,ZC,hC,Z1];by_cases h:a=50
 ·simp [h]
 ·by_cases h2:a=51
  ·simp [h2]
  ·by_cases h3:a=52
   ·simp [h3]
   ·simp [h,h2,h3,Ne.symm h,Ne.symm h2,Ne.symm h3]
theorem in8(hC:T.cons=Z1){a:Nat}:Zv T .In (.str [a]) (.con 8) hs=some (decide (a=49\/a=50\/a=51\/a=52)):=by
 simp [Zv,ZB,inD,Qe8,Y5,ZC,hC,Z1];by_cases h0:a=49
 ·simp [h0]
 ·by_cases h:a=50
  ·simp [h]
  ·by_cases h2:a=51
   ·simp [h2]
   ·by_cases h3:a=52
    ·simp [h3]
    ·simp [h0,h,h2,h3,Ne.symm h0,Ne.symm h,Ne.symm h2,Ne.symm h3]
theorem in5(hC:T.cons=Z1){a:Nat}:Zv T .In (.str [a]) (.con 5) hs=some (decide (a=114\/a=108)):=by
 simp [Zv,ZB,inU,YD,eqF,hC,Z1,eq_comm]
theorem in6(hC:T.cons=Z1){a:Nat}:Zv T .In (.str [a]) (.con 6) hs=some (decide (a=102\/a=98)):=by
 simp [Zv,ZB,inU,YD,eqF,hC,Z1,eq_comm]
theorem ni0(hC:T.cons=Z1){a:Nat}:Zv T .NotIn (.str [a]) (.con 0) hs=some (decide (¬(a=119\/a=120\/a=121\/a=122))):=by
 simp [Zv,ZB,inU,YD,eqF,hC,Z1,eq_comm]
theorem eqs{a b:Nat}:Zv T .Eq (.str [a]) (.str [b]) hs=some (decide (a=b)):=by
 simp [Zv,eq_str]
theorem ZF{b:Bool}:YX T (.bl b) hs=some b:=rfl
theorem n37(hF:T.fns=fnL)(hC:T.cons=Z1){a:Nat}(h:[a]∉mks):Ql T (n+1) 37 [.str [a]] hs=some (.non,hs):=by
 rw [Zb fnL[37] (Qam hF 37 _ rfl) rfl];show fin (exs T (Ql T n) 100 b37 [some (.str [a])] hs)=_
 have h1:a≠107:=by rintro rfl;exact h (by decide)
 have h2:a≠112:=by rintro rfl;exact h (by decide)
 have h3:a≠115:=by rintro rfl;exact h (by decide)
 have h4:a≠111:=by rintro rfl;exact h (by decide)
 have h5:a≠98:=by rintro rfl;exact h (by decide)
 simp [b37,QU,QS,Qo,QL,QQ,Q0,QT,y_c,Ze,QH,ZA,Q1,Zc,Zd,Z3,QA,Z9,Za,Zf,YB,QB,QN,Q7,Qy,QM,QD,Qq,evs,fin,ZF,in3 hC,eqs,h1,h2,h3,h4,h5]
theorem n38(hF:T.fns=fnL)(hC:T.cons=Z1){a b:Nat}(h:[a,b]∉mks):Ql T (n+1) 38 [.str [a],.str [b]] hs=some (.non,hs):=by
 rw [Zb fnL[38] (Qam hF 38 _ rfl) rfl];show fin (exs T (Ql T n) 100 b38 [some (.str [a]),some (.str [b])] hs)=_;by_cases hb:b=119\/b=120\/b=121\/b=122
 ·have h1:a≠104:=by rintro rfl;rcases hb with rfl | rfl | rfl | rfl<;>exact h (by decide)
  have h2:a≠102:=by rintro rfl;rcases hb with rfl | rfl | rfl | rfl<;>exact h (by decide)
  simp [b38,QU,QS,Qo,QL,QQ,Q0,QT,y_c,Ze,QH,ZA,Q1,Zc,Zd,Z3,QA,Z9,Za,Zf,YB,QB,QN,Q7,Qy,QM,QD,Qq,evs,fin,ZF,ni0 hC,eqs,h1,h2,hb]
 ·simp [b38,QU,QS,Qo,QL,QQ,Q0,QT,y_c,Ze,QH,ZA,Q1,Zc,Zd,Z3,QA,Z9,Za,Zf,YB,QB,QN,Q7,Qy,QM,QD,Qq,evs,fin,ZF,ni0 hC,eqs,hb]
theorem n39(hF:T.fns=fnL)(hC:T.cons=Z1){a b c:Nat}(h:[a,b,c]∉mks):Ql T (n+1) 39 [.str [a],.str [b],.str [c]] hs=some (.non,hs):=by
 rw [Zb fnL[39] (Qam hF 39 _ rfl) rfl];show fin (exs T (Ql T n) 100 b39 [some (.str [a]),some (.str [b]),some (.str [c])] hs)=_;by_cases ha:a=107\/a=112
 ·have h1:¬(b=120/\(c=50\/c=51\/c=52)):=by
   rintro⟨rfl,hc⟩
   rcases ha with rfl | rfl<;>rcases hc with rfl | rfl | rfl<;>exact h (by decide)
  have h2:¬((b=50\/b=51\/b=52)/\(c=114\/c=108)):=by
   rintro⟨hb,hc⟩
   rcases ha with rfl | rfl<;>rcases hb with rfl | rfl | rfl<;>rcases hc with rfl | rfl<;>exact h (by decide)
  by_cases hb:b=120
  ·have hc:¬(c=50\/c=51\/c=52):=fun z=>h1 ⟨hb,z⟩;simp [b39,QU,QS,Qo,QL,QQ,Q0,QT,y_c,Ze,QH,ZA,Q1,Zc,Zd,Z3,QA,Z9,Za,Zf,YB,QB,QN,Q7,Qy,QM,QD,Qq,evs,fin,ZF,ni3 hC,in7 hC,in5 hC,eqs,ha,hb,hc]
  ·by_cases hb2:b=50\/b=51\/b=52
   ·have hc:¬(c=114\/c=108):=fun z=>h2 ⟨hb2,z⟩;simp [b39,QU,QS,Qo,QL,QQ,Q0,QT,y_c,Ze,QH,ZA,Q1,Zc,Zd,Z3,QA,Z9,Za,Zf,YB,QB,QN,Q7,Qy,QM,QD,Qq,evs,fin,ZF,ni3 hC,in7 hC,in5 hC,eqs,ha,hb,hb2,hc]
   ·simp [b39,QU,QS,Qo,QL,QQ,Q0,QT,y_c,Ze,QH,ZA,Q1,Zc,Zd,Z3,QA,Z9,Za,Zf,YB,QB,QN,Q7,Qy,QM,QD,Qq,evs,fin,ZF,ni3 hC,in7 hC,in5 hC,eqs,ha,hb,hb2]
 ·simp [b39,QU,QS,Qo,QL,QQ,Q0,QT,y_c,Ze,QH,ZA,Q1,Zc,Zd,Z3,QA,Z9,Za,Zf,YB,QB,QN,Q7,Qy,QM,QD,Qq,evs,fin,ZF,ni3 hC,eqs,ha]
theorem n40(hF:T.fns=fnL)(hC:T.cons=Z1){a b c e:Nat}(h:[a,b,c,e]∉mks):Ql T (n+1) 40 [.str [a],.str [b],.str [c],.str [e]] hs=some (.non,hs):=by
 rw [Zb fnL[40] (Qam hF 40 _ rfl) rfl];show fin (exs T (Ql T n) 100 b40 [some (.str [a]),some (.str [b]),some (.str [c]),some (.str [e])] hs)=_;by_cases ha:a=99\/a=113
 ·by_cases hb:b=49\/b=50\/b=51\/b=52
  ·by_cases hc:c=102\/c=98
   ·have he:¬(e=49\/e=50\/e=51\/e=52):=by
     intro he
     rcases ha with rfl | rfl<;>rcases hb with rfl | rfl | rfl | rfl<;>rcases hc with rfl | rfl<;>rcases he with rfl | rfl | rfl | rfl<;>exact h (by decide)
    simp [b40,QU,QS,Qo,QL,QQ,Q0,QT,y_c,Ze,QH,ZA,Q1,Zc,Zd,Z3,QA,Z9,Za,Zf,YB,QB,QN,Q7,Qy,QM,QD,Qq,evs,fin,ZF,in4 hC,in8 hC,in6 hC,eqs,ha,hb,hc,he]
   ·simp [b40,QU,QS,Qo,QL,QQ,Q0,QT,y_c,Ze,QH,ZA,Q1,Zc,Zd,Z3,QA,Z9,Za,Zf,YB,QB,QN,Q7,Qy,QM,QD,Qq,evs,fin,ZF,in4 hC,in8 hC,in6 hC,eqs,ha,hb,hc]
  ·simp [b40,QU,QS,Qo,QL,QQ,Q0,QT,y_c,Ze,QH,ZA,Q1,Zc,Zd,Z3,QA,Z9,Za,Zf,YB,QB,QN,Q7,Qy,QM,QD,Qq,evs,fin,ZF,in4 hC,in8 hC,in6 hC,eqs,ha,hb]
 ·simp [b40,QU,QS,Qo,QL,QQ,Q0,QT,y_c,Ze,QH,ZA,Q1,Zc,Zd,Z3,QA,Z9,Za,Zf,YB,QB,QN,Q7,Qy,QM,QD,Qq,evs,fin,ZF,in4 hC,in8 hC,in6 hC,eqs,ha]
end
section
variable {T:Tbl}{n d:Nat}{hs:Hs}{cf:Cf}
theorem eqi{i j:Int}:Zv T .Eq (.int i 0) (.int j 0) hs=some (decide (i=j)):=rfl
theorem n36(hF:T.fns=fnL)(hC:T.cons=Z1){x:List Nat}(hl:x.length<=1000000)(h:x∉mks):Ql T (n+2) 36 [.str x] hs=some (.non,hs):=by
 rw [Zb fnL[36] (Qam hF 36 _ rfl) rfl];show fin (exs T (Ql T (n+1)) 100 b36 [some (.str x),none] hs)=_
 match x,hl,h with
 | [],hl,h=>simp [b36,QU,QS,Qo,QL,QQ,Q0,QT,y_c,Ze,QH,ZA,Q1,Zc,Zd,Z3,QA,Z9,Za,Zf,YB,QB,QN,Q7,Qy,QM,QD,Qq,evs,fin,ZF,biU,biL,eqi]
 | [a],hl,h=>simp [b36,QU,QS,Qo,QL,QQ,Q0,QT,y_c,Ze,QH,ZA,Q1,Zc,Zd,Z3,QA,Z9,Za,Zf,YB,QB,QN,Q7,Qy,QM,QD,Qq,evs,fin,ZF,biU,biL,eqi,n37 hF hC h]
 | [a,b],hl,h=>simp [b36,QU,QS,Qo,QL,QQ,Q0,QT,y_c,Ze,QH,ZA,Q1,Zc,Zd,Z3,QA,Z9,Za,Zf,YB,QB,QN,Q7,Qy,QM,QD,Qq,evs,fin,ZF,biU,biL,eqi,n38 hF hC h,Z4,atU,ixU]
 | [a,b,c],hl,h=>simp [b36,QU,QS,Qo,QL,QQ,Q0,QT,y_c,Ze,QH,ZA,Q1,Zc,Zd,Z3,QA,Z9,Za,Zf,YB,QB,QN,Q7,Qy,QM,QD,Qq,evs,fin,ZF,biU,biL,eqi,n39 hF hC h,Z4,atU,ixU]
 | [a,b,c,e],hl,h=>simp [b36,QU,QS,Qo,QL,QQ,Q0,QT,y_c,Ze,QH,ZA,Q1,Zc,Zd,Z3,QA,Z9,Za,Zf,YB,QB,QN,Q7,Qy,QM,QD,Qq,evs,fin,ZF,biU,biL,eqi,n40 hF hC h,Z4,atU,ixU]
 | a::b::c::e::f::r,hl,h =>
  have h1:¬((r.length:Int)+1+1+1+1+1=1):=by omega
  have h2:¬((r.length:Int)+1+1+1+1+1=2):=by omega
  have h3:¬((r.length:Int)+1+1+1+1+1=3):=by omega
  have h4:¬((r.length:Int)+1+1+1+1+1=4):=by omega
  have hl':r.length+1+1+1+1+1<=1000000:=by simpa using hl
  simp [b36,QU,QS,Qo,QL,QQ,Q0,QT,y_c,Ze,QH,ZA,Q1,Zc,Zd,Z3,QA,Z9,Za,Zf,YB,QB,QN,Q7,Qy,QM,QD,Qq,evs,fin,ZF,biU,biL,eqi,h1,h2,h3,h4,hl']
noncomputable def Bad(T:Tbl)(u:U)(hs:Hs):Prop:=JC T .str u hs=some false\/∃x,u=.str x/\x.length<=1000000/\x∉mks
theorem QaZ:Zv T .Is .non .non hs=some true:=rfl
theorem isS{x:List Nat}:JC T .str (.str x) hs=some true:=rfl
theorem n35(hF:T.fns=fnL)(hC:T.cons=Z1){u:U}(h:Bad T u hs):Ql T (n+3) 35 [u] hs=none:=by
 rw [Zb fnL[35] (Qam hF 35 _ rfl) rfl];show fin (exs T (Ql T (n+2)) 100 b35 [some u,none] hs)=_
 rcases h with h | ⟨x,rfl,hl,h⟩
 ·simp [b35,QU,QS,Qo,QL,QQ,Q0,QT,y_c,Ze,QH,ZA,Q1,Zc,Zd,Z3,QA,Z9,Za,Zf,YB,QB,QN,Q7,Qy,QM,QD,Qq,evs,fin,ZF,h,QaZ,ex,exs]
 ·simp [b35,QU,QS,Qo,QL,QQ,Q0,QT,y_c,Ze,QH,ZA,Q1,Zc,Zd,Z3,QA,Z9,Za,Zf,YB,QB,QN,Q7,Qy,QM,QD,Qq,evs,fin,ZF,isS,n36 hF hC hl h,QaZ,ex,exs]
theorem x35(hF:T.fns=fnL)(hC:T.cons=Z1)(hE:T.ers=Qju){u:U}(h:Bad T u hs):Qau T (n+3) 35 [u] hs=some (11,hs):=by
 have e:T.fns[35]?=some fnL[35]:=Qam hF 35 _ rfl;simp only [Qau,e]
 rw [if_pos (by rfl)]
 show exsX T (Ql T (n+2)) 100 b35 [some u,none] hs=_
 have es:T.ers.contains 11=true:=by rw [hE];rfl
 rcases h with h | ⟨x,rfl,hl,h⟩
 ·simp [b35,exsX,exX,QU,QS,Qo,QL,QQ,Q0,QT,y_c,Ze,QH,ZA,Q1,Zc,Zd,Z3,QA,Z9,Za,Zf,YB,QB,QN,Q7,Qy,QM,QD,Qq,evs,fin,ZF,h,QaZ,ex,exs,es,hE,Qju]
 ·simp [b35,exsX,exX,QU,QS,Qo,QL,QQ,Q0,QT,y_c,Ze,QH,ZA,Q1,Zc,Zd,Z3,QA,Z9,Za,Zf,YB,QB,QN,Q7,Qy,QM,QD,Qq,evs,fin,ZF,isS,n36 hF hC hl h,QaZ,ex,exs,es,hE,Qju]
end
section
variable {s:List U}{n d:Nat}{hs:Hs}{cf:Cf}
theorem isE{t:Ty}{b:Bool}(hb:Qjs (.cls 11) t=none)(h:isiL.lookup (.cls 11,t)=some b):JC (tb s) t (.ref hs.length) (hs++[.err 11])=some b:=by
 have e:(hs++[O.err 11])[hs.length]?=some (.err 11):=by simp
 simp only [JC,Y4,e,hb];exact h
theorem n50{u:U}(h:Bad (tb s) u hs):Ql (tb s) (n+4) 50 [u] hs=some (.bl true,hs++[.err 11]):=by
 rw [Zb fnL[50] rfl rfl];show fin (exs (tb s) (Ql (tb s) (n+3)) 100 b50 [some u,none,none] hs)=_;have h1:Ql (tb s) (n+3) 35 [u] hs=none:=n35 rfl rfl h;have hx:Bad (tbX s) u hs:=h;have h2:(tb s).xf 35 [u] hs=some (11,hs):=x35 (T:=tbX s) (n:=1) rfl rfl rfl hx
 have h3:((tb s).ers.contains 11=true/\(tb s).esb.contains (11,10)=true/\(match (tb s).fns[35]? with | some F=>decide ([u].length=F.np) | none=>false)=true):=⟨rfl,rfl,rfl⟩
 have ht:ex (tb s) (Ql (tb s) (n+3)) 98 (.tryE 1 2 35 [.var 0] 10) [some u,some .non,none] hs=some (.next,[some u,some (.ref hs.length),none],hs++[.err 11]):=by
  simp only [ex,evs,QH,QU,List.getElem?_cons_zero,h1,h2,if_pos h3];rfl
 have e50:b50=(.set 1 (.c .non))::(.tryE 1 2 35 [.var 0] 10)::b50.drop 2:=rfl;rw [e50,Qo,QQ,y_c,QU];simp only [List.set];rw [Qo,ht];simp only [b50,List.drop];simp [QU,QS,Qo,QL,QQ,Q0,QT,y_c,Ze,QH,ZA,Q1,Zc,Zd,Z3,QA,Z9,Za,Zf,YB,QB,QN,Q7,Qy,QM,QD,Qq,evs,fin,ZF,isE (s:=s) (hs:=hs) (t:=.cls 11) (b:=true) rfl rfl,isE (s:=s) (hs:=hs) (t:=.vale) (b:=true) rfl rfl,isE (s:=s) (hs:=hs) (t:=.cls 12) (b:=false) rfl rfl,isE (s:=s) (hs:=hs) (t:=.cls 13) (b:=false) rfl rfl,isE (s:=s) (hs:=hs) (t:=.cls 14) (b:=false) rfl rfl,isE (s:=s) (hs:=hs) (t:=.cls 15) (b:=false) rfl rfl,isE (s:=s) (hs:=hs) (t:=.cls 16) (b:=false) rfl rfl,isE (s:=s) (hs:=hs) (t:=.cls 17) (b:=false) rfl rfl,isE (s:=s) (hs:=hs) (t:=.cls 18) (b:=false) rfl rfl,isE (s:=s) (hs:=hs) (t:=.cls 19) (b:=false) rfl rfl,isE (s:=s) (hs:=hs) (t:=.cls 20) (b:=false) rfl rfl,isE (s:=s) (hs:=hs) (t:=.cls 21) (b:=false) rfl rfl]
end
section
variable {s:List U}{n d:Nat}{hs:Hs}{cf:Cf}{T:Tbl}
theorem Qkp(x:Int):∃u h1 m h2,Ql (tb s) 6 42 [.int x 0] h0=some (u,h1)/\Ql (tb s) 6 43 [u] h1=some (.str m,h2)/\h2.take h0.length=h0/\m.length<=10:=by
 have hN:((x*37 % 95).toNat:Int)=x*37 % 95:=by omega
 have hL:(x*37 % 95).toNat<95:=by omega
 have hc:QkH s x (x*37 % 95).toNat=true:=List.all_eq_true.mp (QkG s x) _ (List.mem_range.mpr hL)
 have e1:Ql (tb s) 6 42 [.int x 0] h0=fin (exs (tb s) (Ql (tb s) 5) 99 (b42.drop 1) [some (.int x 0),some (.int ((x*37 % 95).toNat:Int) 0),none] h0):=by
  rw [Zb fnL[42] rfl rfl,hN];show fin (exs (tb s) (Ql (tb s) 5) 100 b42 [some (.int x 0),none,none] h0)=_;have e:b42=(.set 1 (.op .Mod (.op .Mult (.var 0) (.c (.int 37 0))) (.c (.int 95 0))))::b42.drop 1:=rfl;rw [e,Qo]
  have m1:QaU (.int x 0) (.int 37 0)=some (.int (x*37) 0):=by
   have z:Qw 37=true:=by decide
   simp [QaU,z]
  simp only [QQ,ZA,QH,y_c,QU,List.getElem?_cons_zero,opU,m1,Option.map_some,Qeq];rfl
 unfold QkH at hc;rw [e1];split at hc
 ·rename_i u ρ h1 ee;rw [ee];split at hc
  ·rename_i m h2 e2;simp only [Bool.and_eq_true,decide_eq_true_eq]at hc;exact⟨u,h1,m,h2,rfl,e2,hc.1,hc.2⟩
  ·cases hc
 ·cases hc
theorem Zu{m:List Nat}{lo hi:Option Int}:(Z6 m lo hi).length<=m.length:=by
 unfold Z6;rw [List.length_take,List.length_drop];omega
noncomputable def sg(l:List Nat)(z:Int):Nat:=(l[(z % (l.length:Int)).toNat]?).getD 0
theorem Qe9{l:List Nat}{k:Int}(hk:(l.length:Int)=k)(h0:0<k)(hl:l.length<=1000000)(z:Int):Z4 T (.str l) (.int (z % k) 0) hs=some (.str [sg l z]):=by
 subst hk
 have h1:0<=z % (l.length:Int):=Int.emod_nonneg _ (by omega)
 have h2:z % (l.length:Int) < l.length:=Int.emod_lt_of_pos _ h0
 have h3:(z % (l.length:Int)).toNat<l.length:=by omega
 simp [Z4,hl,atU,ixU,h1,h2,sg,List.getElem?_eq_getElem h3]
noncomputable def sgs:List Nat:=[32,33,34,35,36,38,39,40,41,42,43,44,45,46,47,48,49,50,51,52,53,54,55,56,57,58,59,60,61,62,63,64,65,66,67,68,69,70,71,72,73,74,75,76,77,78,79,80,81,82,83,84,85,86,87,88,89,90,91,92,93,94,95,96]++[97,98,99,100,101,102,103,104,105,106,107,108,109,110,111,112,113,114,115,116,117,118,119,120,121,122,123,124,125,126,10,9]
theorem n47(y:Int):Ql (tb s) (n+1) 47 [.int y 0] hs=some (.str [sg sgs y],hs):=by
 rw [Zb fnL[47] rfl rfl];show fin (exs (tb s) (Ql (tb s) n) 100 b47 [some (.int y 0),none] hs)=_
 have h:=Qe9 (T:=tb s) (hs:=hs) (l:=sgs) (k:=96) (by decide) (by decide) (by decide) y
 unfold b47;simp only [Qo,QQ,y_c,QU,List.set,ZA,QH,List.getElem?_cons_succ,List.getElem?_cons_zero,opU,Qe1]
 rw [if_pos (by decide)]
 simp only [QU,Qo,Q0,Z3,QH,List.set,List.getElem?_cons_succ,List.getElem?_cons_zero,ZA,y_c,opU,Qeq,Option.map_some]
 rw [if_pos (by decide)]
 simp only [QU,Option.map_some];have h':Z4 (tb s) (.str (([32,33,34,35,36,38,39,40,41,42,43,44,45,46,47,48,49,50,51,52,53,54,55,56,57,58,59,60,61,62,63,64,65,66,67,68,69,70,71,72,73,74,75,76,77,78,79,80,81,82,83,84,85,86,87,88,89,90,91,92,93,94,95,96]:List Nat)++[97,98,99,100,101,102,103,104,105,106,107,108,109,110,111,112,113,114,115,116,117,118,119,120,121,122,123,124,125,126,10,9])) (.int (y % 96) 0) hs=some (.str [sg sgs y]):=h;rw [h'];rfl
end
section
variable {s:List U}{n d:Nat}{hs:Hs}{cf:Cf}{T:Tbl}
noncomputable def Qlv(s:List U)(u:U)(h:Hs):Prop:=(∃x,u=.str x/\x.length<=100)\/(JC (tb s) .str u h=some false/\(ZH u=true->∀h,JC (tb s) .str u h=some false))
noncomputable def r48(c a:Int)(m:List Nat):Rho:=[some (.int c 0),some (.str m),some (.int (c % 8) 0),some (.int a 0),none,none,none,none]
theorem Qnd{m:List Nat}(hm:m.length<=1000000):biU T .len [.str m] hs=some (.int m.length 0,hs):=by simp [biU,biL,hm]
theorem h48(c:Int){m:List Nat}(hm:m.length<=10):Ql (tb s) (n+2) 48 [.int c 0,.str m] hs=fin (exs (tb s) (Ql (tb s) (n+1)) 98 (b48.drop 2) (r48 c ((c / 8+c / 7680) % ((m.length:Int)+1)) m) hs):=by
 rw [Zb fnL[48] rfl rfl];show fin (exs (tb s) (Ql (tb s) (n+1)) 100 b48 [some (.int c 0),some (.str m),none,none,none,none,none,none] hs)=_;have e:b48=(.set 2 (.op .Mod (.var 0) (.c (.int 8 0))))::(.set 3 (.op .Mod (.op .Add (.op .FloorDiv (.var 0) (.c (.int 8 0))) (.op .FloorDiv (.var 0) (.c (.int 7680 0)))) (.op .Add (.bi .len [(.var 1)]) (.c (.int 1 0)))))::b48.drop 2:=rfl;rw [e]
 have p:(0:Int) < (m.length:Int)+1:=by omega
 have m1:Qeq (.int (c / 8+c / 7680) 0) (.int ((m.length:Int)+1) 0)=some (.int ((c / 8+c / 7680) % ((m.length:Int)+1)) 0):=by simp [Qeq,p]
 have d1:Ja (.int c 0) (.int 8 0)=some (.int (c / 8) 0):=by simp [Ja]
 have d2:Ja (.int c 0) (.int 7680 0)=some (.int (c / 7680) 0):=by simp [Ja]
 have m0:Qeq (.int c 0) (.int 8 0)=some (.int (c % 8) 0):=by simp [Qeq]
 simp only [Qo,QQ,ZA,QH,y_c,QU,Z9,evs,List.set,List.getElem?_cons_succ,List.getElem?_cons_zero,opU,Qe1,gz,m0,d1,d2,m1,Option.map_some,Qnd (T:=tb s) (hs:=hs) (show m.length<=1000000 by omega)]
 rfl
noncomputable def slr(m:List Nat)(a:Int):List Nat:=Z6 m none (some a)
noncomputable def srr(m:List Nat)(a:Int):List Nat:=Z6 m (some a) none
theorem sl1{m:List Nat}{a:Int}(hm:m.length<=1000000):slU T (.str m) none (some a) hs=some (.str (slr m a),hs):=by simp [slU,hm,slr]
theorem sl2{m:List Nat}{a:Int}(hm:m.length<=1000000):slU T (.str m) (some a) none hs=some (.str (srr m a),hs):=by simp [slU,hm,srr]
theorem Qhk{x y:List Nat}(h:x.length+y.length<=1000000):Qe1 (.str x) (.str y) hs=some (.str (x++y),hs):=by simp [Qe1,h]
theorem Qlt{i j:Int}:Qe1 (.int i 0) (.int j 0) hs=some (.int (i+j) 0,hs):=rfl
theorem w1{c a:Int}{m:List Nat}(hm:m.length<=10)(hw:c % 8=1):fin (exs (tb s) (Ql (tb s) (n+1)) 98 (b48.drop 2) (r48 c a m) hs)=some (.str (slr m a++srr m (a+1)),hs):=by
 have q1:(slr m a).length<=m.length:=Zu;have q2:(srr m (a+1)).length<=m.length:=Zu
 simp [b48,r48,hw,QU,QS,Qo,QQ,Q0,QT,y_c,QH,ZA,Qjm,evO,Qy,Q1,eqi,ZF,opU,Qlt,sl1 (T:=tb s) (show m.length<=1000000 by omega),sl2 (T:=tb s) (show m.length<=1000000 by omega),Qhk (hs:=hs) (x:=slr m a) (y:=srr m (a+1)) (by omega),fin]
theorem w2{c a:Int}{m:List Nat}(hm:m.length<=10)(hw:c % 8=2):fin (exs (tb s) (Ql (tb s) (n+1)) 98 (b48.drop 2) (r48 c a m) hs)=some (.str ((slr m a++[sg sgs (c / 40)])++srr m (a+1)),hs):=by
 have q1:(slr m a).length<=m.length:=Zu;have q2:(srr m (a+1)).length<=m.length:=Zu
 have d1:Ja (.int c 0) (.int 40 0)=some (.int (c / 40) 0):=by simp [Ja]
 have s1:=Qhk (hs:=hs) (x:=slr m a) (y:=[sg sgs (c / 40)]) (by simp;omega)
 have s2:=Qhk (hs:=hs) (x:=slr m a++[sg sgs (c / 40)]) (y:=srr m (a+1)) (by simp;omega)
 simp [b48,r48,hw,QU,QS,Qo,QQ,Q0,QT,y_c,QH,ZA,Qjm,evO,Qy,Q1,eqi,ZF,opU,Qlt,sl1 (T:=tb s) (show m.length<=1000000 by omega),sl2 (T:=tb s) (show m.length<=1000000 by omega),QA,evs,d1,n47,fin,s1,s2]
theorem w3{c a:Int}{m:List Nat}(hm:m.length<=10)(hw:c % 8=3):fin (exs (tb s) (Ql (tb s) (n+1)) 98 (b48.drop 2) (r48 c a m) hs)=some (.str ((slr m a++[sg sgs (c / 40)])++srr m a),hs):=by
 have q1:(slr m a).length<=m.length:=Zu;have q2:(srr m a).length<=m.length:=Zu
 have d1:Ja (.int c 0) (.int 40 0)=some (.int (c / 40) 0):=by simp [Ja]
 have s1:=Qhk (hs:=hs) (x:=slr m a) (y:=[sg sgs (c / 40)]) (by simp;omega)
 have s2:=Qhk (hs:=hs) (x:=slr m a++[sg sgs (c / 40)]) (y:=srr m a) (by simp;omega)
 simp [b48,r48,hw,QU,QS,Qo,QQ,Q0,QT,y_c,QH,ZA,Qjm,evO,Qy,Q1,eqi,ZF,opU,Qlt,sl1 (T:=tb s) (show m.length<=1000000 by omega),sl2 (T:=tb s) (show m.length<=1000000 by omega),QA,evs,d1,n47,fin,s1,s2]
theorem w0{c a:Int}{m:List Nat}(hw:c % 8=0\/c % 8=6\/c % 8=7):fin (exs (tb s) (Ql (tb s) (n+1)) 98 (b48.drop 2) (r48 c a m) hs)=some (.str m,hs):=by
 rcases hw with hw | hw | hw<;>simp [b48,r48,hw,QU,QS,Qo,QQ,Q0,QT,y_c,QH,Qy,Q1,eqi,ZF,fin]
end
section
variable {s:List U}{n d:Nat}{hs:Hs}{cf:Cf}{T:Tbl}
noncomputable def dr:List Nat:=[107,112,115,111,98,104,102,99,113,120,119,121,122,114,108,48,49,50,51,52]
noncomputable def QbE(c:Int)(k:Nat):Int:=c / 48+(k:Int)*k+c / 960*k
theorem evV{i:Nat}{u:U}{ρ:Rho}(h:ρ[i]?=some (some u)):ev T cf (d+1) (.var i) ρ hs=some (u,hs):=by rw [QH,h]
theorem evO{o:Operator}{a b:E}{u w z:U}{ρ:Rho}(h1:ev T cf d a ρ hs=some (u,hs))(h2:ev T cf d b ρ hs=some (w,hs))(h3:opU o u w hs=some (z,hs)):ev T cf (d+1) (.op o a b) ρ hs=some (z,hs):=by
 rw [ZA,h1,QU,h2,QU,h3]
theorem opM{i j:Int}{z:U}(h:QaU (.int i 0) (.int j 0)=some z):opU .Mult (.int i 0) (.int j 0) hs=some (z,hs):=by
 simp only [opU];rw [h];rfl
theorem opQ{i j:Int}{z:U}(h:Ja (.int i 0) (.int j 0)=some z):opU .FloorDiv (.int i 0) (.int j 0) hs=some (z,hs):=by
 simp only [opU];rw [h];rfl
theorem opP{i j:Int}:opU .Add (.int i 0) (.int j 0) hs=some (.int (i+j) 0,hs):=rfl
theorem opT{x y:List Nat}(h:x.length+y.length<=1000000):opU .Add (.str x) (.str y) hs=some (.str (x++y),hs):=by
 simp only [opU];exact Qhk h
theorem opR{i j:Int}(h:0<j):opU .Mod (.int i 0) (.int j 0) hs=some (.int (i % j) 0,hs):=by
 simp only [opU,Qeq];simp [h]
theorem evX{a b:E}{u w z:U}{ρ:Rho}(h1:ev T cf d a ρ hs=some (u,hs))(h2:ev T cf d b ρ hs=some (w,hs))(h3:Z4 T u w hs=some z):ev T cf (d+1) (.ix a b) ρ hs=some (z,hs):=by
 rw [Z3,h1,QU,h2,QU,h3];rfl
theorem g1{c:Int}{k:Nat}{ρ:Rho}(h0:ρ[0]?=some (some (.int c 0)))(h5:ρ[5]?=some (some (.int (k:Int) 0)))(m1:QaU (.int (k:Int) 0) (.int (k:Int) 0)=some (.int ((k:Int)*k) 0))(m2:QaU (.int (c / 960) 0) (.int (k:Int) 0)=some (.int (c / 960*k) 0)):
  ev T cf (d+4) (.op .Add (.op .Add (.op .FloorDiv (.var 0) (.c (.int 48 0))) (.op .Mult (.var 5) (.var 5))) (.op .Mult (.op .FloorDiv (.var 0) (.c (.int 960 0))) (.var 5))) ρ hs=some (.int (QbE c k) 0,hs):=
 evO (evO (evO (evV h0) y_c (opQ (by simp [Ja]))) (evO (evV h5) (evV h5) (opM m1)) opP) (evO (evO (evV h0) y_c (opQ (by simp [Ja]))) (evV h5) (opM m2)) opP
theorem g2{z:Int}{t:List Nat}{ρ:Rho}(h4:ρ[4]?=some (some (.str t)))(h6:ρ[6]?=some (some (.int z 0)))(ht:t.length<=10):
  ev (tb s) cf (d+4) (.op .Add (.var 4) (.ix (.c (.str dr)) (.op .Mod (.var 6) (.c (.int 20 0))))) ρ hs=some (.str (t++[sg dr z]),hs):=
 evO (evV h4) (evX y_c (evO (evV h6) y_c (opR (by decide))) (Qe9 (l:=dr) (k:=20) (by decide) (by decide) (by decide) z)) (opT (by simp;omega))
end
section
variable {s:List U}{n d:Nat}{hs h1:Hs}{cf:Cf}{T:Tbl}{ρ ρ1:Rho}
theorem xs2{s1:S}{r:List S}(h:ex T cf d s1 ρ hs=some (.next,ρ1,h1)):exs T cf (d+1) (s1::r) ρ hs=exs T cf d r ρ1 h1:=by rw [Qo,h]
theorem QfA{i:Nat}{e:E}{u:U}(h:ev T cf d e ρ hs=some (u,h1)):ex T cf (d+1) (.set i e) ρ hs=some (.next,ρ.set i (some u),h1):=by rw [QQ,h,QU]
noncomputable def eW1:E:=.op .Add (.op .Add (.op .FloorDiv (.var 0) (.c (.int 48 0))) (.op .Mult (.var 5) (.var 5))) (.op .Mult (.op .FloorDiv (.var 0) (.c (.int 960 0))) (.var 5))
noncomputable def eW2:E:=.op .Add (.var 4) (.ix (.c (.str dr)) (.op .Mod (.var 6) (.c (.int 20 0))))
theorem t4{c:Int}{t:List Nat}{k:Nat}(h0:ρ[0]?=some (some (.int c 0)))(h4:(ρ.set 6 (some (.int (QbE c k) 0)))[4]?=some (some (.str t)))(h5:ρ[5]?=some (some (.int (k:Int) 0)))(h6:(ρ.set 6 (some (.int (QbE c k) 0)))[6]?=some (some (.int (QbE c k) 0)))
  (ht:t.length<=10) (m1:QaU (.int (k:Int) 0) (.int (k:Int) 0)=some (.int ((k:Int)*k) 0)) (m2:QaU (.int (c / 960) 0) (.int (k:Int) 0)=some (.int (c / 960*k) 0)):
  exs (tb s) cf (d+7) [.set 6 eW1,.set 4 eW2] ρ hs=some (.next,(ρ.set 6 (some (.int (QbE c k) 0))).set 4 (some (.str (t++[sg dr (QbE c k)]))),hs):=
 (xs2 (d:=d+6) (QfA (d:=d+5) (g1 (d:=d+1) h0 h5 m1 m2))).trans ((xs2 (d:=d+5) (QfA (d:=d+4) (g2 (d:=d) h4 h6 ht))).trans QS)
theorem sk6{k:Nat}(hk:k<6):Qw (k:Int)=true:=by
 unfold Qw;simp only [Bool.and_eq_true,decide_eq_true_eq];omega
noncomputable def dt(c:Int):Nat->Nat->List Nat->List Nat
 | 0,_,t=>t
 | r+1,k,t=>dt c r (k+1) (t++[sg dr (QbE c k)])
noncomputable def rW(c:Int)(u1 u2 u3:Option U)(t:List Nat)(x5 x6 x7:Option U):Rho:=[some (.int c 0),u1,u2,u3,some (.str t),x5,x6,x7]
theorem t4'{c:Int}{u1 u2 u3 x6 x7:Option U}{t:List Nat}{k:Nat}(ht:t.length<=10)(hk:k<6):exs (tb s) cf (d+7) [.set 6 eW1,.set 4 eW2] (rW c u1 u2 u3 t (some (.int (k:Int) 0)) x6 x7) hs=some (.next,rW c u1 u2 u3 (t++[sg dr (QbE c k)]) (some (.int (k:Int) 0)) (some (.int (QbE c k) 0)) x7,hs):=by
 have sk:=sk6 hk
 have m1:QaU (.int (k:Int) 0) (.int (k:Int) 0)=some (.int ((k:Int)*k) 0):=by simp [QaU,sk]
 have m2:QaU (.int (c / 960) 0) (.int (k:Int) 0)=some (.int (c / 960*k) 0):=by simp [QaU,sk]
 exact t4 (ρ:=rW c u1 u2 u3 t (some (.int (k:Int) 0)) x6 x7) (c:=c) (t:=t) (k:=k) rfl rfl rfl rfl ht m1 m2
theorem QeJ{w:Wk}{tg:Tg}{body:Ex}{k i:Nat}{x:Im}{ρ' ρ2:Rho}{h2:Hs}(e1:itm T w i hs=some (some x))(e2:tgt tg x ρ hs=some ρ')(e3:body ρ' hs=some (.next,ρ2,h2)):Qal T w tg body (k+1) i ρ hs=Qal T w tg body k (i+1) ρ2 h2:=by
 simp only [Qal,e1,e2,e3]
theorem QeI{w:Wk}{tg:Tg}{body:Ex}{k i:Nat}(e1:itm T w i hs=some none):Qal T w tg body (k+1) i ρ hs=some (.next,ρ,hs):=by
 simp only [Qal,e1]
theorem f4{c:Int}{q:Nat}(hq:q<6){u1 u2 u3:Option U}:∀(r k:Nat) (t:List Nat) (x5 x6 x7:Option U),k+r=q->t.length<=k->∃x5' x6',Qal (tb s) (.rng 0 q) (.name 5) (exs (tb s) cf (d+7) [.set 6 eW1,.set 4 eW2]) (r+1) k (rW c u1 u2 u3 t x5 x6 x7) hs =
  some (.next,rW c u1 u2 u3 (dt c r k t) x5' x6' x7,hs)/\(dt c r k t).length<=q:=by
 intro r
 induction r with
 | zero =>
  intro k t x5 x6 x7 h ht
  have:k=q:=by omega
  subst this;refine⟨x5,x6,?_,ht⟩
  exact QeI (by simp [itm])
 | succ r ih =>
  intro k t x5 x6 x7 h ht
  have hk:k<q:=by omega
  obtain⟨x5',x6',e,l⟩:=ih (k+1) (t++[sg dr (QbE c k)]) (some (.int (k:Int) 0)) (some (.int (QbE c k) 0)) x7 (by omega) (by simp;omega)
  refine⟨x5',x6',?_,l⟩
  have hb:=t4' (s:=s) (d:=d) (cf:=cf) (hs:=hs) (c:=c) (u1:=u1) (u2:=u2) (u3:=u3) (t:=t) (k:=k) (x6:=x6) (x7:=x7) (by omega) (by omega)
  have i1:itm (tb s) (.rng 0 q) k hs=some (some (.one (.int (k:Int) 0))):=by simp [itm,hk]
  have i2:tgt (.name 5) (.one (.int (k:Int) 0)) (rW c u1 u2 u3 t x5 x6 x7) hs=some (rW c u1 u2 u3 t (some (.int (k:Int) 0)) x6 x7):=rfl;exact(QeJ i1 i2 hb).trans e
end
section
variable {s:List U}{n d:Nat}{hs h1:Hs}{cf:Cf}{T:Tbl}{ρ ρ1:Rho}
theorem tst{w j:Int}(h2:ρ[2]?=some (some (.int w 0))):evT T cf (d+3) (.cmp .Eq (.var 2) (.c (.int j 0))) ρ hs=some (decide (w=j),hs):=by
 rw [Qy,Q1,QH,h2];simp only [QU,y_c,eqi,Option.map_some,ZF]
theorem xno{t:E}{a r:List S}(h:evT T cf (d+1) t ρ hs=some (false,hs)):exs T cf (d+3) (.ite t a []::r) ρ hs=exs T cf (d+2) r ρ hs:=by
 rw [Qo,QT,h,QU];simp only [Bool.false_eq_true,if_false,QS]
theorem QlB{t:E}{a b r:List S}{u:U}(h:evT T cf (d+1) t ρ hs=some (true,hs))(h2:exs T cf (d+1) a ρ hs=some (.ret u,ρ1,h1)):exs T cf (d+3) (.ite t a b::r) ρ hs=some (.ret u,ρ1,h1):=by
 rw [Qo,QT,h,QU];simp only [if_true,h2]
theorem QjC{e:E}{r:List S}{u:U}(h:ev T cf d e ρ hs=some (u,h1)):exs T cf (d+2) (.ret e::r) ρ hs=some (.ret u,ρ,h1):=by
 rw [Qo,Q0,h,QU]
theorem QjD{t:Tg}{sr:Src}{b r:List S}{w:Wk}(h:YH T (ev T cf d) ρ sr hs=some (w,hs))(h2:Qal T w t (exs T cf d b) (JX T w hs) 0 ρ hs=some (.next,ρ1,h1)):exs T cf (d+2) (.loop t sr b::r) ρ hs=exs T cf (d+1) r ρ1 h1:=by
 rw [Qo,Qhn,h,QU,h2]
noncomputable def B4:List S:=[.set 4 (.c (.str [])),.loop (.name 5) (.rng (.op .Mod (.op .FloorDiv (.var 0) (.c (.int 8 0))) (.c (.int 6 0)))) [.set 6 eW1,.set 4 eW2],.ret (.var 4)]
theorem w4{c:Int}{u1 u2 u3 x4 x5 x6 x7:Option U}:∃t ρ',exs (tb s) cf (d+20) B4 [some (.int c 0),u1,u2,u3,x4,x5,x6,x7] hs=some (.ret (.str t),ρ',hs)/\t.length<=6:=by
 have hq:(c / 8 % 6).toNat<6:=by omega
 have hz:((c / 8 % 6).toNat:Int)=c / 8 % 6:=by omega
 have d1:Ja (.int c 0) (.int 8 0)=some (.int (c / 8) 0):=by simp [Ja]
 obtain⟨y5,y6,e,l⟩:=f4 (s:=s) (d:=d+10) (cf:=cf) (hs:=hs) (c:=c) (u1:=u1) (u2:=u2) (u3:=u3) hq (c / 8 % 6).toNat 0 [] x5 x6 x7 (by omega) (by simp)
 have sr:YH (tb s) (ev (tb s) cf (d+17)) (rW c u1 u2 u3 [] x5 x6 x7) (.rng (.op .Mod (.op .FloorDiv (.var 0) (.c (.int 8 0))) (.c (.int 6 0)))) hs=some (.rng 0 (c / 8 % 6).toNat,hs):=by
  have z:ev (tb s) cf (d+17) (.op .Mod (.op .FloorDiv (.var 0) (.c (.int 8 0))) (.c (.int 6 0))) (rW c u1 u2 u3 [] x5 x6 x7) hs=some (.int (c / 8 % 6) 0,hs):=evO (d:=d+16) (evO (d:=d+15) (evV (d:=d+14) rfl) y_c (opQ d1)) y_c (opR (by decide))
  have sm:Qw (c / 8 % 6*4)=true:=by
   unfold Qw;simp only [Bool.and_eq_true,decide_eq_true_eq];omega
  simp only [YH];rw [z];simp only [QU];rw [if_pos sm]
 have tn:JX (tb s) (.rng 0 (c / 8 % 6).toNat) hs=(c / 8 % 6).toNat+1:=by simp [JX]
 refine⟨_,_,(xs2 (d:=d+19) (QfA (d:=d+18) (i:=4) (u:=.str []) y_c)).trans ((QjD (d:=d+17) sr (by rw [tn];exact e)).trans (QjC (d:=d+16) (evV (d:=d+15) rfl))),Nat.le_trans l (by omega)⟩
end
section
variable {s:List U}{n d:Nat}{hs h1:Hs}{cf:Cf}{T:Tbl}{ρ ρ1:Rho}
theorem mk2:ev (tb s) cf (d+1) (.make 2 []) ρ hs=some (.ref hs.length,hs++[.ins 2 []]):=by
 rw [ev];rfl
theorem Q2{f:Ev}{e:E}{es:List E}{u:U}{us:List U}{h2 h3:Hs}(e1:f e ρ hs=some (u,h2))(e2:evs f ρ es h2=some (us,h3)):evs f ρ (e::es) hs=some (u::us,h3):=by
 simp only [evs,e1,bd,e2]
theorem JH{f:Ev}:evs f ρ [] hs=some ([],hs):=rfl
theorem evL{es:List E}{us:List U}(h:evs (ev T cf d) ρ es hs=some (us,h1)):ev T cf (d+1) (.lst es) ρ hs=some (.ref h1.length,h1++[.lst us]):=by rw [QjB,h,QU]
theorem Qns{es:List E}{us:List U}(h:evs (ev T cf d) ρ es hs=some (us,h1)):ev T cf (d+1) (.tup es) ρ hs=some (.ref h1.length,h1++[.tup us]):=by rw [QjA,h,QU]
theorem evD:ev T cf (d+1) .dnew ρ hs=some (.ref hs.length,hs++[.dic []]):=by rw [Qho]
noncomputable def L8:List E:=[(.c .non),(.c (.bl true)),(.c (.int 7 0)),(.lst [(.var 1)]),(.tup [(.var 1)]),.dnew,(.c (.str [])),(.make 2 [])]
theorem l8{m:List Nat}(h1:ρ[1]?=some (some (.str m))):evs (ev (tb s) cf (d+3)) ρ L8 hs=some ([.non,.bl true,.int 7 0,.ref hs.length,.ref (hs++[O.lst [.str m]]).length,.ref (hs++[O.lst [.str m]]++[O.tup [.str m]]).length,.str [],.ref (hs++[O.lst [.str m]]++[O.tup [.str m]]++[O.dic []]).length],hs++[O.lst [.str m]]++[O.tup [.str m]]++[O.dic []]++[O.ins 2 []]):=
 Q2 y_c (Q2 y_c (Q2 y_c (Q2 (evL (Q2 (evV h1) JH)) (Q2 (Qns (Q2 (evV h1) JH)) (Q2 evD (Q2 y_c (Q2 mk2 JH)))))))
noncomputable def L3:List E:=[(.op .Add (.var 1) (.var 1)),(.op .Add (.c (.str [32])) (.var 1)),(.op .Add (.var 1) (.c (.str [32])))]
theorem l3{m:List Nat}(hm:m.length<=10)(h1:ρ[1]?=some (some (.str m))):evs (ev (tb s) cf (d+3)) ρ L3 hs=some ([.str (m++m),.str ([32]++m),.str (m++[32])],hs):=
 Q2 (evO (evV h1) (evV h1) (opT (by omega))) (Q2 (evO y_c (evV h1) (opT (by simp;omega))) (Q2 (evO (evV h1) y_c (opT (by simp;omega))) JH))
noncomputable def B5:List S:=[.set 7 (.lst L8),.set 7 (.op .Add (.var 7) (.lst L3)),.ret (.ix (.var 7) (.op .Mod (.op .FloorDiv (.var 0) (.c (.int 8 0))) (.c (.int 11 0))))]
noncomputable def k8(m:List Nat)(p:Nat):List U:=[.non,.bl true,.int 7 0,.ref p,.ref (p+1),.ref (p+2),.str [],.ref (p+3)]
noncomputable def k3(m:List Nat):List U:=[.str (m++m),.str ([32]++m),.str (m++[32])]
noncomputable def g4(m:List Nat):Hs:=[O.lst [.str m],O.tup [.str m],.dic [],.ins 2 []]
theorem e8{m:List Nat}(h1:ρ[1]?=some (some (.str m))):ev (tb s) cf (d+4) (.lst L8) ρ hs=some (.ref (hs.length+4),hs++(g4 m++[O.lst (k8 m hs.length)])):=by
 rw [evL (l8 h1)];simp [g4,k8]
theorem at4{a:Hs}{o:O}{r:Hs}(h:a.length=4):(hs++(a++o::r))[hs.length+4]?=some o:=by
 rw [List.getElem?_append_right (by omega),show hs.length+4-hs.length=4 by omega,List.getElem?_append_right (by omega),h]
 rfl
theorem e11{m:List Nat}(hm:m.length<=10)(h1:ρ[1]?=some (some (.str m)))(h7:ρ[7]?=some (some (.ref (hs.length+4)))):ev (tb s) cf (d+5) (.op .Add (.var 7) (.lst L3)) ρ (hs++(g4 m++[O.lst (k8 m hs.length)]))=some (.ref (hs.length+6),hs++(g4 m++[O.lst (k8 m hs.length),O.lst (k3 m),O.lst (k8 m hs.length++k3 m)])):=by
 have a1:ev (tb s) cf (d+4) (.lst L3) ρ (hs++(g4 m++[O.lst (k8 m hs.length)]))=some (.ref (hs.length+5),hs++(g4 m++[O.lst (k8 m hs.length),O.lst (k3 m)])):=by
  rw [evL (l3 hm h1)];simp [g4,k3]
 rw [ZA,evV (d:=d+3) h7,QU,a1,QU];have q1:(hs++(g4 m++[O.lst (k8 m hs.length),O.lst (k3 m)]))[hs.length+4]?=some (O.lst (k8 m hs.length)):=at4 rfl
 have q2:(hs++(g4 m++[O.lst (k8 m hs.length),O.lst (k3 m)]))[hs.length+5]?=some (O.lst (k3 m)):=by
  rw [List.getElem?_append_right (by omega),show hs.length+5-hs.length=5 by omega]
  rfl
 simp only [opU,Qe1,q1,q2,QkI]
 rw [if_pos (by simp [k8,k3])]
 simp [g4]
end
section
variable {s:List U}{n d:Nat}{hs h1:Hs}{cf:Cf}{T:Tbl}{ρ ρ1:Rho}
noncomputable def gg(m:List Nat)(p:Nat):Hs:=g4 m++[O.lst (k8 m p),O.lst (k3 m),O.lst (k8 m p++k3 m)]
theorem at6{m:List Nat}:(hs++gg m hs.length)[hs.length+6]?=some (O.lst (k8 m hs.length++k3 m)):=by
 rw [List.getElem?_append_right (by omega),show hs.length+6-hs.length=6 by omega]
 rfl
theorem w5{c:Int}{m:List Nat}(hm:m.length<=10){u2 u3 x4 x5 x6 x7:Option U}{k:Nat}{u:U}(hk:c / 8 % 11=(k:Int))(hu:(k8 m hs.length++k3 m)[k]?=some u):∃ρ',exs (tb s) cf (d+20) B5 [some (.int c 0),some (.str m),u2,u3,x4,x5,x6,x7] hs=some (.ret u,ρ',hs++gg m hs.length):=by
 have d1:Ja (.int c 0) (.int 8 0)=some (.int (c / 8) 0):=by simp [Ja]
 have l11:(k8 m hs.length++k3 m).length=11:=rfl
 have hk1:k<11:=by rw [<-l11];exact(List.getElem?_eq_some_iff.mp hu).1
 have sb:Z4 (tb s) (.ref (hs.length+6)) (.int (k:Int) 0) (hs++gg m hs.length)=some u:=by
  simp only [Z4,at6]
  have ix:ixU (k8 m hs.length++k3 m).length (k:Int)=some k:=by
   unfold ixU
   rw [l11,if_pos (by omega),if_pos (by omega)]
   simp
  unfold atU;rw [ix];exact hu
 have a1:=e8 (s:=s) (cf:=cf) (d:=d+14) (hs:=hs) (m:=m) (ρ:=[some (.int c 0),some (.str m),u2,u3,x4,x5,x6,x7]) rfl;have a2:=e11 (s:=s) (cf:=cf) (d:=d+12) (hs:=hs) (m:=m) (ρ:=[some (.int c 0),some (.str m),u2,u3,x4,x5,x6,some (.ref (hs.length+4))]) hm rfl rfl
 have a3:ev (tb s) cf (d+16) (.ix (.var 7) (.op .Mod (.op .FloorDiv (.var 0) (.c (.int 8 0))) (.c (.int 11 0)))) [some (.int c 0),some (.str m),u2,u3,x4,x5,x6,some (.ref (hs.length+6))] (hs++gg m hs.length)=some (u,hs++gg m hs.length):=
  evX (d:=d+15) (evV (d:=d+14) rfl) (evO (d:=d+14) (evO (d:=d+13) (evV (d:=d+12) rfl) y_c (opQ d1)) y_c (by rw [opR (by decide),hk])) sb
 exact⟨_,(xs2 (d:=d+19) (QfA (d:=d+18) a1)).trans ((xs2 (d:=d+18) (QfA (d:=d+17) a2)).trans (QjC (d:=d+16) a3))⟩
theorem tg5{m:List Nat}(hm:m.length<=10){k:Nat}{u:U}(hu:(k8 m hs.length++k3 m)[k]?=some u):Qlv s u (hs++gg m hs.length):=by
 have a0:(hs++gg m hs.length)[hs.length]?=some (O.lst [.str m]):=by
  rw [List.getElem?_append_right (by omega),show hs.length-hs.length=0 by omega];rfl
 have a1:(hs++gg m hs.length)[hs.length+1]?=some (O.tup [.str m]):=by
  rw [List.getElem?_append_right (by omega),show hs.length+1-hs.length=1 by omega];rfl
 have a2:(hs++gg m hs.length)[hs.length+2]?=some (O.dic []):=by
  rw [List.getElem?_append_right (by omega),show hs.length+2-hs.length=2 by omega];rfl
 have a3:(hs++gg m hs.length)[hs.length+3]?=some (O.ins 2 []):=by
  rw [List.getElem?_append_right (by omega),show hs.length+3-hs.length=3 by omega];rfl
 match k,hu with
 | 0,hu=>cases hu;exact .inr ⟨rfl,fun _ _=>rfl⟩
 | 1,hu=>cases hu;exact .inr ⟨rfl,fun _ _=>rfl⟩
 | 2,hu=>cases hu;exact .inr ⟨rfl,fun _ _=>rfl⟩
 | 3,hu=>cases hu;exact .inr ⟨by simp only [JC,Y4,a0];rfl,fun z=>by cases z⟩
 | 4,hu=>cases hu;exact .inr ⟨by simp only [JC,Y4,a1];rfl,fun z=>by cases z⟩
 | 5,hu=>cases hu;exact .inr ⟨by simp only [JC,Y4,a2];rfl,fun z=>by cases z⟩
 | 6,hu=>cases hu;exact .inl ⟨_,rfl,by simp⟩
 | 7,hu=>cases hu;exact .inr ⟨by simp only [JC,Y4,a3];rfl,fun z=>by cases z⟩
 | 8,hu=>cases hu;exact .inl ⟨_,rfl,by simp;omega⟩
 | 9,hu=>cases hu;exact .inl ⟨_,rfl,by simp;omega⟩
 | 10,hu=>cases hu;exact .inl ⟨_,rfl,by simp;omega⟩
 | k+11,hu=>exact absurd (List.getElem?_eq_some_iff.mp hu).1 (by simp [k8,k3])
end
section
variable {s:List U}{n d:Nat}{hs h1:Hs}{cf:Cf}{T:Tbl}{ρ ρ1:Rho}
theorem Qfy:∃a1 a2 a3 r,b48.drop 2=(.ite (.cmp .Eq (.var 2) (.c (.int 1 0))) a1 [])::(.ite (.cmp .Eq (.var 2) (.c (.int 2 0))) a2 [])::(.ite (.cmp .Eq (.var 2) (.c (.int 3 0))) a3 [])::(.ite (.cmp .Eq (.var 2) (.c (.int 4 0))) B4 [])::(.ite (.cmp .Eq (.var 2) (.c (.int 5 0))) B5 [])::r:=⟨_,_,_,_,rfl⟩
theorem Qgt{w j:Int}(h2:ρ[2]?=some (some (.int w 0)))(h:w≠j):evT T cf (d+3) (.cmp .Eq (.var 2) (.c (.int j 0))) ρ hs=some (false,hs):=by rw [tst h2,decide_eq_false h]
theorem QlA{w j:Int}(h2:ρ[2]?=some (some (.int w 0)))(h:w=j):evT T cf (d+3) (.cmp .Eq (.var 2) (.c (.int j 0))) ρ hs=some (true,hs):=by rw [tst h2,decide_eq_true h]
theorem c4{c a:Int}{m:List Nat}(hw:c % 8=4):∃t,fin (exs (tb s) cf (d+40) (b48.drop 2) (r48 c a m) hs)=some (.str t,hs)/\t.length<=6:=by
 obtain⟨a1,a2,a3,r,e⟩:=Qfy;obtain⟨t,ρ',q,l⟩:=w4 (s:=s) (d:=d+15) (cf:=cf) (hs:=hs) (c:=c) (u1:=some (.str m)) (u2:=some (.int (c % 8) 0)) (u3:=some (.int a 0)) (x4:=none) (x5:=none) (x6:=none) (x7:=none);have q':exs (tb s) cf (d+35) B4 (r48 c a m) hs=some (.ret (.str t),ρ',hs):=q
 have z:=(xno (T:=tb s) (cf:=cf) (d:=d+37) (ρ:=r48 c a m) (hs:=hs) (a:=a1) (r:=_) (Qgt (d:=d+35) (w:=c % 8) (j:=1) rfl (by omega))).trans ((xno (T:=tb s) (cf:=cf) (d:=d+36) (ρ:=r48 c a m) (hs:=hs) (a:=a2) (Qgt (d:=d+34) (w:=c % 8) (j:=2) rfl (by omega))).trans ((xno (T:=tb s) (cf:=cf) (d:=d+35) (ρ:=r48 c a m) (hs:=hs) (a:=a3) (Qgt (d:=d+33) (w:=c % 8) (j:=3) rfl (by omega))).trans
  (QlB (T:=tb s) (cf:=cf) (d:=d+34) (ρ:=r48 c a m) (hs:=hs) (a:=B4) (b:=[]) (r:=(.ite (.cmp .Eq (.var 2) (.c (.int 5 0))) B5 [])::r) (QlA (d:=d+32) (w:=c % 8) (j:=4) rfl hw) q')))
 refine⟨t,?_,l⟩;rw [e,z];rfl
theorem c5{c a:Int}{m:List Nat}(hm:m.length<=10)(hw:c % 8=5):∃u,fin (exs (tb s) cf (d+40) (b48.drop 2) (r48 c a m) hs)=some (u,hs++gg m hs.length)/\Qlv s u (hs++gg m hs.length):=by
 obtain⟨a1,a2,a3,r,e⟩:=Qfy
 have hk:c / 8 % 11=((c / 8 % 11).toNat:Int):=by omega
 have lt:(c / 8 % 11).toNat<(k8 m hs.length++k3 m).length:=by
  show(c / 8 % 11).toNat<11;omega
 have hu:(k8 m hs.length++k3 m)[(c / 8 % 11).toNat]?=some (k8 m hs.length++k3 m)[(c / 8 % 11).toNat]:=List.getElem?_eq_getElem lt;obtain⟨ρ',q⟩:=w5 (s:=s) (d:=d+14) (cf:=cf) (hs:=hs) (c:=c) hm (u2:=some (.int (c % 8) 0)) (u3:=some (.int a 0)) (x4:=none) (x5:=none) (x6:=none) (x7:=none) hk hu;have q':exs (tb s) cf (d+34) B5 (r48 c a m) hs=some (.ret (k8 m hs.length++k3 m)[(c / 8 % 11).toNat],ρ',hs++gg m hs.length):=q
 have z:=(xno (T:=tb s) (cf:=cf) (d:=d+37) (ρ:=r48 c a m) (hs:=hs) (a:=a1) (r:=_) (Qgt (d:=d+35) (w:=c % 8) (j:=1) rfl (by omega))).trans ((xno (T:=tb s) (cf:=cf) (d:=d+36) (ρ:=r48 c a m) (hs:=hs) (a:=a2) (Qgt (d:=d+34) (w:=c % 8) (j:=2) rfl (by omega))).trans ((xno (T:=tb s) (cf:=cf) (d:=d+35) (ρ:=r48 c a m) (hs:=hs) (a:=a3) (Qgt (d:=d+33) (w:=c % 8) (j:=3) rfl (by omega))).trans
  ((xno (T:=tb s) (cf:=cf) (d:=d+34) (ρ:=r48 c a m) (hs:=hs) (a:=B4) (Qgt (d:=d+32) (w:=c % 8) (j:=4) rfl (by omega))).trans (QlB (T:=tb s) (cf:=cf) (d:=d+33) (ρ:=r48 c a m) (hs:=hs) (a:=B5) (b:=[]) (r:=r) (QlA (d:=d+31) (w:=c % 8) (j:=5) rfl hw) q'))))
 refine⟨_,?_,tg5 hm hu⟩;rw [e,z];rfl
theorem th(c:Int){m:List Nat}(hm:m.length<=10):∃u g,Ql (tb s) (n+2) 48 [.int c 0,.str m] hs=some (u,hs++g)/\Qlv s u (hs++g):=by
 rw [h48 c hm];have q1:∀a,(slr m a).length<=m.length:=fun a=>Zu;have q2:∀a,(srr m a).length<=m.length:=fun a=>Zu
 have hw:c % 8=0\/c % 8=1\/c % 8=2\/c % 8=3\/c % 8=4\/c % 8=5\/c % 8=6\/c % 8=7:=by omega
 have A:=q1 ((c / 8+c / 7680) % ((m.length:Int)+1));have B:=q2 ((c / 8+c / 7680) % ((m.length:Int)+1)+1);have C:=q2 ((c / 8+c / 7680) % ((m.length:Int)+1))
 rcases hw with h | h | h | h | h | h | h | h
 ·exact⟨_,[],by rw [w0 (.inl h),List.append_nil],.inl ⟨_,rfl,by omega⟩⟩
 ·exact⟨_,[],by rw [w1 hm h,List.append_nil],.inl ⟨_,rfl,by simp only [List.length_append];omega⟩⟩
 ·exact⟨_,[],by rw [w2 hm h,List.append_nil],.inl ⟨_,rfl,by simp only [List.length_append,List.length_cons,List.length_nil];omega⟩⟩
 ·exact⟨_,[],by rw [w3 hm h,List.append_nil],.inl ⟨_,rfl,by simp only [List.length_append,List.length_cons,List.length_nil];omega⟩⟩
 ·obtain⟨t,e,l⟩:=c4 (s:=s) (d:=58) (cf:=Ql (tb s) (n+1)) (hs:=hs) (c:=c) (a:=(c / 8+c / 7680) % ((m.length:Int)+1)) (m:=m) h
  exact⟨_,[],by rw [List.append_nil];exact e,.inl ⟨_,rfl,by omega⟩⟩
 ·obtain⟨u,e,l⟩:=c5 (s:=s) (d:=58) (cf:=Ql (tb s) (n+1)) (hs:=hs) (c:=c) (a:=(c / 8+c / 7680) % ((m.length:Int)+1)) (m:=m) hm h;exact⟨u,_,e,l⟩
 ·exact⟨_,[],by rw [w0 (.inr (.inl h)),List.append_nil],.inl ⟨_,rfl,by omega⟩⟩
 ·exact⟨_,[],by rw [w0 (.inr (.inr h)),List.append_nil],.inl ⟨_,rfl,by omega⟩⟩
end
section
variable {s:List U}{n d:Nat}{hs h1:Hs}{cf:Cf}{T:Tbl}{ρ ρ1:Rho}
theorem Qa0{f:Nat}{es:List E}{us:List U}{r:Option (U×Hs)}(e1:evs (ev T cf d) ρ es hs=some (us,h1))(e2:cf f us h1=r):ev T cf (d+1) (.call f es) ρ hs=r:=by rw [QA,e1,QU,e2]
noncomputable def E48:E:=.call 48 [.var 3,.call 43 [.call 42 [.op .Add (.var 3) (.op .FloorDiv (.var 3) (.c (.int 8 0)))]]]
theorem tk{h2 g:Hs}(h:h2.take h0.length=h0):(h2++g).take h0.length=h0:=by
 have l:h0.length<=h2.length:=by
  have:=congrArg List.length h;rw [List.length_take]at this;omega
 rw [List.take_append_of_le_length l,h]
theorem z48{c:Int}(h3:ρ[3]?=some (some (.int c 0))):∃u hz,ev (tb s) (Ql (tb s) 6) (d+10) (.zap E48) ρ h0=some (u,hz)/\hz.take h0.length=h0/\((∃x,u=.str x/\x.length<=100/\hz=h0)\/JC (tb s) .str u hz=some false):=by
 obtain⟨u1,h1,m,h2,e1,e2,hp,hm⟩:=Qkp (s:=s) (c+c / 8);obtain⟨u,g,e3,tg⟩:=th (s:=s) (n:=4) (hs:=h2) c hm
 have d1:Ja (.int c 0) (.int 8 0)=some (.int (c / 8) 0):=by simp [Ja]
 have a1:ev (tb s) (Ql (tb s) 6) (d+6) (.op .Add (.var 3) (.op .FloorDiv (.var 3) (.c (.int 8 0)))) ρ h0=some (.int (c+c / 8) 0,h0):=evO (d:=d+5) (evV (d:=d+4) h3) (evO (d:=d+4) (evV (d:=d+3) h3) y_c (opQ d1)) opP;have a2:ev (tb s) (Ql (tb s) 6) (d+7) (.call 42 [.op .Add (.var 3) (.op .FloorDiv (.var 3) (.c (.int 8 0)))]) ρ h0=some (u1,h1):=Qa0 (d:=d+6) (Q2 a1 JH) e1;have a3:ev (tb s) (Ql (tb s) 6) (d+8) (.call 43 [.call 42 [.op .Add (.var 3) (.op .FloorDiv (.var 3) (.c (.int 8 0)))]]) ρ h0=some (.str m,h2):=Qa0 (d:=d+7) (Q2 a2 JH) e2;have a4:ev (tb s) (Ql (tb s) 6) (d+9) E48 ρ h0=some (u,h2++g):=Qa0 (d:=d+8) (Q2 (evV (d:=d+7) h3) (Q2 a3 JH)) e3;have hz:(h2++g).take h0.length=h0:=tk hp
 have q:ev (tb s) (Ql (tb s) 6) (d+10) (.zap E48) ρ h0=if ZH u=true/\(h2++g).take h0.length=h0 then some (u,h0)else some (u,h2++g):=by
  rw [ev,a4]
 by_cases hs:ZH u=true
 ·refine⟨u,h0,by rw [q,if_pos ⟨hs,hz⟩],List.take_length ..,?_⟩
  rcases tg with⟨x,ex,lx⟩ | ⟨_,al⟩
  ·exact .inl ⟨x,ex,lx,rfl⟩
  ·exact .inr (al hs h0)
 ·refine⟨u,h2++g,by rw [q,if_neg (fun z=>hs z.1)],hz,?_⟩
  rcases tg with⟨x,ex,lx⟩ | ⟨al,_⟩
  ·rw [ex]at hs;exact absurd rfl hs
  ·exact .inr al
noncomputable def kvL:List (U×U):=match kd with | .dic l=>l | _=>[]
theorem Qcf:kvL.map (·.1)=mks.map U.str:=by kernel_rfl
theorem Qgz(x:List Nat):(Z0 kvL (.str x)).isSome=decide (x∈mks):=by
 unfold Z0;rw [Option.isSome_map,List.isSome_find?,Bool.eq_iff_iff];simp only [List.any_eq_true,decide_eq_true_eq];constructor
 ·rintro⟨p,hp,e⟩;have:p.1∈kvL.map (·.1):=List.mem_map_of_mem hp;rw [Qcf,e]at this;obtain⟨y,hy,ey⟩:=List.mem_map.mp this;cases ey;exact hy
 ·intro hx
  have:U.str x∈kvL.map (·.1):=by rw [Qcf];exact List.mem_map_of_mem hx
  obtain⟨p,hp,e⟩:=List.mem_map.mp this;exact⟨p,hp,e⟩
theorem QiG{x:List Nat}:Zv (tb s) .NotIn (.str x) (.ref 0) h0=some (!decide (x∈mks)):=by
 have h00:h0[0]?=some (.dic kvL):=by kernel_rfl
 have sq:ZB (tb s) (.ref 0) h0=none:=by simp only [ZB,h00]
 have dg:inD (tb s) (.ref 0) (.str x) h0=some (decide (x∈mks)):=by
  simp only [inD,h00,Qaq,Y5,if_true,Option.map_some,Qgz]
 simp only [Zv,sq,dg,Option.map_some]
end
section
variable {s:List U}{n d:Nat}{hs h1:Hs}{cf:Cf}{T:Tbl}{ρ ρ1:Rho}
noncomputable def Tst:E:=.or (.not (.isi (.var 4) .str)) (.cmp .NotIn (.var 4) (.var 1))
noncomputable def Qhj:List S:=[.ite (.not (.call 50 [.var 4])) [.ret (.c (.bl false))] []]
theorem Qjf:bdy=[.set 4 (.zap E48),.ite Tst Qhj okB]:=rfl
theorem Ql3{a:E}{t:Ty}{u:U}{b:Bool}(h1:ev T cf d a ρ hs=some (u,hs))(h2:JC T t u hs=some b):ev T cf (d+1) (.isi a t) ρ hs=some (.bl b,hs):=by
 rw [Za,h1,QU,h2];rfl
theorem QjG{u:U}{hz:Hs}(h4:ρ[4]?=some (some u))(h:JC T .str u hz=some false):evT T cf (d+6) Tst ρ hz=some (true,hz):=by
 unfold Tst;rw [Q7,QB,QD,Ql3 (d:=d+2) (evV (d:=d+1) h4) h,QU];rfl
theorem Qhw{x:List Nat}{b:Bool}(h4:ρ[4]?=some (some (.str x)))(h1:ρ[1]?=some (some (.ref 0)))(h:Zv T .NotIn (.str x) (.ref 0) hs=some b):evT T cf (d+6) Tst ρ hs=some (b,hs):=by
 unfold Tst;rw [Q7,QB,QD,Ql3 (d:=d+2) (evV (d:=d+1) h4) isS,QU];simp only [ZF,Option.map_some,QU,Bool.not_true,Bool.false_eq_true,if_false];rw [Qy,Q1,evV (d:=d+2) h4,QU,evV (d:=d+2) h1,QU,h];rfl
theorem Qhp{t:E}{a b:List S}{c:Bool}{r:Option (Fl×Rho×Hs)}(h:evT T cf d t ρ hs=some (c,hs))(h2:(if c=true then exs T cf d a ρ hs else exs T cf d b ρ hs)=r)(hr:∃ρ2 h2',r=some (.next,ρ2,h2')):exs T cf (d+2) [.ite t a b] ρ hs=r:=by
 obtain⟨ρ2,h2',rfl⟩:=hr;rw [Qo,QT,h,QU,h2];simp only [QS]
theorem Qhc{u:U}{hz:Hs}(h4:ρ[4]?=some (some u))(h:Bad (tb s) u hz):exs (tb s) (Ql (tb s) 6) (d+10) Qhj ρ hz=some (.next,ρ,hz++[.err 11]):=by
 have e:=n50 (s:=s) (n:=2) h;have a1:ev (tb s) (Ql (tb s) 6) (d+6) (.call 50 [.var 4]) ρ hz=some (.bl true,hz++[.err 11]):=Qa0 (d:=d+5) (Q2 (evV (d:=d+4) h4) JH) e;unfold Qhj;rw [Qo,QT,QB,Qq,a1];simp only [QU,ZF,Option.map_some,Bool.not_true,Bool.false_eq_true,if_false,QS]
noncomputable def Fm(ρ:Rho):Prop:=∃x2 x3 x4 x5 x6,ρ=[some .scr,some (.ref 0),x2,x3,x4,x5,x6]
theorem Qkx(l:ρ.length=7)(a:ρ[0]?=some (some .scr))(b:ρ[1]?=some (some (.ref 0))):Fm ρ:=by
 match ρ,l,a,b with
 | [y0,y1,y2,y3,y4,y5,y6],_,a,b =>
  cases a;cases b;exact⟨_,_,_,_,_,rfl⟩
theorem turn{c:Int}{x2 x4 x5 x6:Option U}:∃ρ' h',exs (tb s) (Ql (tb s) 6) 96 bdy [some .scr,some (.ref 0),x2,some (.int c 0),x4,x5,x6] h0=some (.next,ρ',h')/\Fm ρ'/\h'.take h0.length=h0:=by
 obtain⟨u,hz,e,hp,cs⟩:=z48 (s:=s) (d:=84) (c:=c) (ρ:=[some .scr,some (.ref 0),x2,some (.int c 0),x4,x5,x6]) rfl;rw [Qjf];have st:exs (tb s) (Ql (tb s) 6) 96 [.set 4 (.zap E48),.ite Tst Qhj okB] [some .scr,some (.ref 0),x2,some (.int c 0),x4,x5,x6] h0=exs (tb s) (Ql (tb s) 6) 95 [.ite Tst Qhj okB] [some .scr,some (.ref 0),x2,some (.int c 0),some u,x5,x6] hz:=xs2 (d:=95) (QfA (d:=94) (i:=4) e);rw [st]
 have bad:Bad (tb s) u hz->∀(t:evT (tb s) (Ql (tb s) 6) 93 Tst [some .scr,some (.ref 0),x2,some (.int c 0),some u,x5,x6] hz=some (true,hz)),∃ρ' h',exs (tb s) (Ql (tb s) 6) 95 [.ite Tst Qhj okB] [some .scr,some (.ref 0),x2,some (.int c 0),some u,x5,x6] hz=some (.next,ρ',h')/\Fm ρ'/\h'.take h0.length=h0:=fun hb t=>by
  have z:=Qhc (s:=s) (d:=83) (ρ:=[some .scr,some (.ref 0),x2,some (.int c 0),some u,x5,x6]) (u:=u) (hz:=hz) rfl hb
  exact⟨_,_,Qhp (d:=93) t (by rw [if_pos rfl];exact z) ⟨_,_,rfl⟩,⟨_,_,_,_,_,rfl⟩,tk hp⟩
 rcases cs with⟨x,rfl,lx,rfl⟩ | al
 ·by_cases hx:x∈mks
  ·have hc:chk s c x2 x5 x6 x=true:=List.all_eq_true.mp (QnA s c x2 x5 x6) x hx;unfold chk at hc;split at hc
   ·rename_i ρ' h' e';simp only [Bool.and_eq_true,decide_eq_true_eq]at hc;obtain⟨⟨⟨c1,c2⟩,c3⟩,c4⟩:=hc
    have t:evT (tb s) (Ql (tb s) 6) 93 Tst [some .scr,some (.ref 0),x2,some (.int c 0),some (.str x),x5,x6] h0=some (false,h0):=Qhw (d:=87) rfl rfl (by rw [QiG,decide_eq_true hx];rfl)
    exact⟨ρ',h',Qhp (d:=93) t (by rw [if_neg Bool.false_ne_true];exact e') ⟨_,_,rfl⟩,Qkx c2 c3 c4,c1⟩
   ·cases hc
  ·exact bad (.inr ⟨x,rfl,by omega,hx⟩) (Qhw (d:=87) rfl rfl (by rw [QiG,decide_eq_false hx];rfl))
 ·exact bad (.inl al) (QjG (d:=87) rfl al)
theorem Qeu:∀(ns:List Int) (ρ:Rho),Fm ρ->∃ρ',Qc1 h0 3 (exs (tb s) (Ql (tb s) 6) 96 bdy) (ns.map fun i=>U.int i 0) ρ=some (.next,ρ'):=by
 intro ns
 induction ns with
 | nil=>intro ρ _;exact⟨ρ,rfl⟩
 | cons c r ih =>
  rintro ρ ⟨x2,x3,x4,x5,x6,rfl⟩;obtain⟨ρ',h',e,⟨y2,y3,y4,y5,y6,rfl⟩,hp⟩:=turn (s:=s) (c:=c) (x2:=x2) (x4:=x4) (x5:=x5) (x6:=x6)
  have lp:(0:Nat) < h0.length:=by
   have:h0.length=297:=by kernel_rfl
   omega
  obtain⟨ρ2,e2⟩:=ih (frgN h0.length [some .scr,some (.ref 0),y2,y3,y4,y5,y6]) ⟨JE h0.length y2,JE h0.length y3,JE h0.length y4,JE h0.length y5,JE h0.length y6,by
   simp only [frgN,List.map_cons,List.map_nil]
   simp only [JE,lp,if_true]⟩
  refine⟨ρ2,?_⟩;simp only [List.map_cons,Qc1];have es:exs (tb s) (Ql (tb s) 6) 96 bdy ([some .scr,some (.ref 0),x2,x3,x4,x5,x6].set 3 (some (.int c 0))) h0=some (.next,[some .scr,some (.ref 0),y2,y3,y4,y5,y6],h'):=e;rw [es];simp only;rw [if_pos hp];exact e2
end
theorem QcX:∀ns:List Int,Paired Abs (ns.map fun i=>U.int i 0) ns
 | []=>.nil
 | i::r=>.cons ⟨i,0,rfl,Cg.refl i 0⟩ (QcX r)
theorem Qg4{ns:List Int}{lo hi:Option Int}:Z6 (ns.map fun i=>U.int i 0) lo hi=(Z6 ns lo hi).map fun i=>U.int i 0:=by
 unfold Z6;rw [List.length_map,List.map_take,List.map_drop]
theorem QeL{T:Tbl}{cf:Cf}{d i p:Nat}{e:E}{body:List S}{ρ ρ':Rho}{hs h1:Hs}{xs:List U}(e1:ev T cf d e ρ hs=some (.ref p,h1))(e2:h1[p]?=some (.lst xs))(c:p=hs.length/\h1.take hs.length=hs/\xs.all ZH=true)(e3:Qc1 hs i (exs T cf d body) xs ρ=some (.next,ρ')):
  ex T cf (d+1) (.loopD i e body) ρ hs=some (.next,ρ',hs):=by
 rw [ex,e1];simp only [QU,e2];rw [if_pos c];simp only [e3]
theorem Qnt{T:Tbl}{cf:Cf}{d:Nat}{ρ:Rho}{hs:Hs}{j:Int}(h:ρ[0]?=some (some .scr)):ev T cf (d+2) (.sl (.var 0) none (some (.c (.int j 0)))) ρ hs=some (.ref hs.length,hs++[O.lst (Z6 T.scr none (some j))]):=by
 rw [Qjm,QH,h];simp only [QU,Iv.evO,y_c];rfl
theorem Qjg:b51=[.set 1 .dnew,sK,.loopD 3 (.sl (.var 0) none (some (.c (.int 42 0)))) bdy,.ret (.c (.bl true))]:=rfl
theorem comp(ns:List Int)(hl:ns.length<=63):∃s hs',Paired Abs s ns/\Ql (tb s) 7 51 [.scr] []=some (.bl true,hs'):=by
 obtain⟨ρ',e⟩:=Qeu (s:=ns.map fun i=>U.int i 0) (Z6 ns none (some 42)) [some .scr,some (.ref 0),some (.int 94 0),none,none,none,none] ⟨_,_,_,_,_,rfl⟩;refine⟨ns.map fun i=>U.int i 0,h0,QcX ns,?_⟩;rw [Zb fnL[51] rfl rfl];show fin (exs (tb (ns.map fun i=>U.int i 0)) (Ql (tb (ns.map fun i=>U.int i 0)) 6) 100 b51 [some .scr,none,none,none,none,none,none] [])=_;rw [Qjg]
 have a1:exs (tb (ns.map fun i=>U.int i 0)) (Ql (tb (ns.map fun i=>U.int i 0)) 6) 100 [.set 1 .dnew,sK,.loopD 3 (.sl (.var 0) none (some (.c (.int 42 0)))) bdy,.ret (.c (.bl true))] [some .scr,none,none,none,none,none,none] []=
   exs (tb (ns.map fun i=>U.int i 0)) (Ql (tb (ns.map fun i=>U.int i 0)) 6) 99 [sK,.loopD 3 (.sl (.var 0) none (some (.c (.int 42 0)))) bdy,.ret (.c (.bl true))] [some .scr,some (.ref 0),none,none,none,none,none] [.dic []]:=xs2 (d:=99) (QfA (d:=98) (i:=1) (evD (d:=97)))
 rw [a1,xs2 (d:=98) (known _)]
 have sl:ev (tb (ns.map fun i=>U.int i 0)) (Ql (tb (ns.map fun i=>U.int i 0)) 6) 96 (.sl (.var 0) none (some (.c (.int 42 0)))) [some .scr,some (.ref 0),some (.int 94 0),none,none,none,none] h0=some (.ref h0.length,h0++[O.lst ((Z6 ns none (some 42)).map fun i=>U.int i 0)]):=by
  rw [<-Qg4];exact Qnt (d:=94) rfl
 have at_:(h0++[O.lst ((Z6 ns none (some 42)).map fun i=>U.int i 0)])[h0.length]?=some (O.lst ((Z6 ns none (some 42)).map fun i=>U.int i 0)):=by
  rw [List.getElem?_append_right (Nat.le_refl _),Nat.sub_self];rfl
 have al:(((Z6 ns none (some 42)).map fun i=>U.int i 0).all ZH)=true:=by
  rw [List.all_map];exact List.all_eq_true.mpr fun _ _=>rfl
 rw [xs2 (d:=97) (QeL (d:=96) sl at_ ⟨rfl,List.take_left ..,al⟩ e),QjC (d:=95) y_c];rfl
theorem sc0:FnScope N0 ["self"] (Qa st0):=⟨rfl,rfl,rfl,by decide +kernel,rfl,by decide +kernel,by decide +kernel⟩
theorem sc1:FnScope N1 ["self"] (Qa st1):=⟨rfl,rfl,rfl,by decide +kernel,rfl,by decide +kernel,by decide +kernel⟩
theorem sc2:FnScope N2 ["self","side"] (Qa st2):=⟨rfl,rfl,rfl,by decide +kernel,rfl,by decide +kernel,by decide +kernel⟩
theorem sc3:FnScope N3 ["self"] (Qa st3):=⟨rfl,rfl,rfl,by decide +kernel,rfl,by decide +kernel,by decide +kernel⟩
theorem sc4:FnScope N4 ["self"] (Qa st4):=⟨rfl,rfl,rfl,by decide +kernel,rfl,by decide +kernel,by decide +kernel⟩
theorem sc5:FnScope N5 ["self"] (Qa st5):=⟨rfl,rfl,rfl,by decide +kernel,rfl,by decide +kernel,by decide +kernel⟩
theorem sc6:FnScope N6 ["self"] (Qa st6):=⟨rfl,rfl,rfl,by decide +kernel,rfl,by decide +kernel,by decide +kernel⟩
theorem sc7:FnScope N7 ["self"] (Qa st7):=⟨rfl,rfl,rfl,by decide +kernel,rfl,by decide +kernel,by decide +kernel⟩
theorem sc8:FnScope N8 ["self"] (Qa st8):=⟨rfl,rfl,rfl,by decide +kernel,rfl,by decide +kernel,by decide +kernel⟩
theorem sc9:FnScope N9 ["self"] (Qa st9):=⟨rfl,rfl,rfl,by decide +kernel,rfl,by decide +kernel,by decide +kernel⟩
theorem Qm3:FnScope N10 ["self"] (Qa QdW):=⟨rfl,rfl,rfl,by decide +kernel,rfl,by decide +kernel,by decide +kernel⟩
theorem Qm2:FnScope N11 ["self"] (Qa QdV):=⟨rfl,rfl,rfl,by decide +kernel,rfl,by decide +kernel,by decide +kernel⟩
theorem Qm1:FnScope N12 ["self","many","way","side"] (Qa QdU):=⟨rfl,rfl,rfl,by decide +kernel,rfl,by decide +kernel,by decide +kernel⟩
theorem Qm0:FnScope N13 ["self"] (Qa QdT):=⟨rfl,rfl,rfl,by decide +kernel,rfl,by decide +kernel,by decide +kernel⟩
theorem QmZ:FnScope N14 ["self"] (Qa QdS):=⟨rfl,rfl,rfl,by decide +kernel,rfl,by decide +kernel,by decide +kernel⟩
theorem QmY:FnScope N15 ["self"] (Qa QdR):=⟨rfl,rfl,rfl,by decide +kernel,rfl,by decide +kernel,by decide +kernel⟩
theorem QmX:FnScope N16 ["self","many","side"] (Qa QdQ):=⟨rfl,rfl,rfl,by decide +kernel,rfl,by decide +kernel,by decide +kernel⟩
theorem QmW:FnScope N17 ["self"] (Qa QdP):=⟨rfl,rfl,rfl,by decide +kernel,rfl,by decide +kernel,by decide +kernel⟩
theorem QmV:FnScope N18 ["self"] (Qa QdO):=⟨rfl,rfl,rfl,by decide +kernel,rfl,by decide +kernel,by decide +kernel⟩
theorem QmU:FnScope N19 ["self"] (Qa QdN):=⟨rfl,rfl,rfl,by decide +kernel,rfl,by decide +kernel,by decide +kernel⟩
theorem QmT:FnScope N20 ["self","first","second","way","side"] (Qa QdM):=⟨rfl,rfl,rfl,by decide +kernel,rfl,by decide +kernel,by decide +kernel⟩
theorem QmS:FnScope N21 ["self"] (Qa QdL):=⟨rfl,rfl,rfl,by decide +kernel,rfl,by decide +kernel,by decide +kernel⟩
theorem QmR:FnScope N22 ["self"] (Qa QdK):=⟨rfl,rfl,rfl,by decide +kernel,rfl,by decide +kernel,by decide +kernel⟩
theorem QmQ:FnScope N23 ["self"] (Qa QdJ):=⟨rfl,rfl,rfl,by decide +kernel,rfl,by decide +kernel,by decide +kernel⟩
theorem QmP:FnScope N24 ["self"] (Qa QdI):=⟨rfl,rfl,rfl,by decide +kernel,rfl,by decide +kernel,by decide +kernel⟩
theorem QmO:FnScope N25 ["self"] (Qa QdH):=⟨rfl,rfl,rfl,by decide +kernel,rfl,by decide +kernel,by decide +kernel⟩
theorem QmN:FnScope N26 ["self"] (Qa QdG):=⟨rfl,rfl,rfl,by decide +kernel,rfl,by decide +kernel,by decide +kernel⟩
theorem QmM:FnScope N27 ["self","keeper"] (Qa QdF):=⟨rfl,rfl,rfl,by decide +kernel,rfl,by decide +kernel,by decide +kernel⟩
theorem QmL:FnScope N28 ["self"] (Qa QdE):=⟨rfl,rfl,rfl,by decide +kernel,rfl,by decide +kernel,by decide +kernel⟩
theorem QmK:FnScope N29 ["self"] (Qa QdD):=⟨rfl,rfl,rfl,by decide +kernel,rfl,by decide +kernel,by decide +kernel⟩
theorem QmJ:FnScope N30 ["self"] (Qa QdC):=⟨rfl,rfl,rfl,by decide +kernel,rfl,by decide +kernel,by decide +kernel⟩
theorem QmI:FnScope N31 ["self","keeper"] (Qa QdB):=⟨rfl,rfl,rfl,by decide +kernel,rfl,by decide +kernel,by decide +kernel⟩
theorem QmH:FnScope N32 ["self"] (Qa QdA):=⟨rfl,rfl,rfl,by decide +kernel,rfl,by decide +kernel,by decide +kernel⟩
theorem QmG:FnScope N33 ["self"] (Qa Qdz):=⟨rfl,rfl,rfl,by decide +kernel,rfl,by decide +kernel,by decide +kernel⟩
theorem QmF:FnScope N34 ["self"] (Qa Qdy):=⟨rfl,rfl,rfl,by decide +kernel,rfl,by decide +kernel,by decide +kernel⟩
theorem QmE:FnScope N35 ["mark"] (Qa Qdx):=⟨rfl,rfl,rfl,by decide +kernel,rfl,by decide +kernel,by decide +kernel⟩
theorem QmD:FnScope N36 ["text"] (Qa Qdw):=⟨rfl,rfl,rfl,by decide +kernel,rfl,by decide +kernel,by decide +kernel⟩
theorem QmC:FnScope N37 ["sign"] (Qa Qdv):=⟨rfl,rfl,rfl,by decide +kernel,rfl,by decide +kernel,by decide +kernel⟩
theorem QmB:FnScope N38 ["sign","keeper"] (Qa Qdu):=⟨rfl,rfl,rfl,by decide +kernel,rfl,by decide +kernel,by decide +kernel⟩
theorem QmA:FnScope N39 ["sign","middle","last"] (Qa Qdt):=⟨rfl,rfl,rfl,by decide +kernel,rfl,by decide +kernel,by decide +kernel⟩
theorem Qmz:FnScope N40 ["sign","first","way","second"] (Qa Qds):=⟨rfl,rfl,rfl,by decide +kernel,rfl,by decide +kernel,by decide +kernel⟩
theorem Qmy:FnScope N41 ["_law_found","_law_due"] (Qa Qdr):=⟨rfl,rfl,rfl,by decide +kernel,rfl,by decide +kernel,by decide +kernel⟩
theorem Qmx:FnScope N42 ["_law_cell"] (Qa Qdq):=⟨rfl,rfl,rfl,by decide +kernel,rfl,by decide +kernel,by decide +kernel⟩
theorem Qmw:FnScope N43 ["_law_one"] (Qa Qdp):=⟨rfl,rfl,rfl,by decide +kernel,rfl,by decide +kernel,by decide +kernel⟩
theorem Qmv:FnScope N44 ["_law_one"] (Qa Qdo):=⟨rfl,rfl,rfl,by decide +kernel,rfl,by decide +kernel,by decide +kernel⟩
theorem Qmu:FnScope N45 ["_law_one"] (Qa Qdn):=⟨rfl,rfl,rfl,by decide +kernel,rfl,by decide +kernel,by decide +kernel⟩
theorem Qmt:FnScope N46 ["_law_one"] (Qa Qdm):=⟨rfl,rfl,rfl,by decide +kernel,rfl,by decide +kernel,by decide +kernel⟩
theorem Qms:FnScope N47 ["_law_cell"] (Qa Qdl):=⟨rfl,rfl,rfl,by decide +kernel,rfl,by decide +kernel,by decide +kernel⟩
theorem Qmr:FnScope N48 ["_law_cell","_law_mark_here"] (Qa Qdk):=⟨rfl,rfl,rfl,by decide +kernel,rfl,by decide +kernel,by decide +kernel⟩
theorem Qmq:FnScope N49 ["_law_found","_law_one"] (Qa Qdj):=⟨rfl,rfl,rfl,by decide +kernel,rfl,by decide +kernel,by decide +kernel⟩
theorem Qmp:FnScope N50 ["_law_thing_here"] (Qa Qdi):=⟨rfl,rfl,rfl,by decide +kernel,rfl,by decide +kernel,by decide +kernel⟩
theorem Qmo:FnScope N51 ["_law_script"] (Qa QcZ):=⟨rfl,rfl,rfl,by decide +kernel,rfl,by decide +kernel,by decide +kernel⟩
noncomputable abbrev BO(T:Tbl)(N:List Str)(st:Stmt)(l:Bool)(b:List S):Prop:=compSs 100 ⟨T,N,(Qa st).names,glo,Qjv,l⟩ (Qc st)=some b
theorem bo0(s:List U):BO (tb s) N0 st0 false b0:=by kernel_rfl
theorem bo1(s:List U):BO (tb s) N1 st1 false b1:=by kernel_rfl
theorem bo2(s:List U):BO (tb s) N2 st2 false b2:=by kernel_rfl
theorem bo3(s:List U):BO (tb s) N3 st3 false b3:=by kernel_rfl
theorem bo4(s:List U):BO (tb s) N4 st4 false b4:=by kernel_rfl
theorem bo5(s:List U):BO (tb s) N5 st5 false b5:=by kernel_rfl
theorem bo6(s:List U):BO (tb s) N6 st6 false b6:=by kernel_rfl
theorem bo7(s:List U):BO (tb s) N7 st7 false b7:=by kernel_rfl
theorem bo8(s:List U):BO (tb s) N8 st8 false b8:=by kernel_rfl
theorem bo9(s:List U):BO (tb s) N9 st9 false b9:=by kernel_rfl
theorem Qoq(s:List U):BO (tb s) N10 QdW false b10:=by kernel_rfl
theorem Qop(s:List U):BO (tb s) N11 QdV false b11:=by kernel_rfl
theorem Qoo(s:List U):BO (tb s) N12 QdU false b12:=by kernel_rfl
theorem Qon(s:List U):BO (tb s) N13 QdT false b13:=by kernel_rfl
theorem Qom(s:List U):BO (tb s) N14 QdS false b14:=by kernel_rfl
theorem Qol(s:List U):BO (tb s) N15 QdR false b15:=by kernel_rfl
theorem Qok(s:List U):BO (tb s) N16 QdQ false b16:=by kernel_rfl
theorem Qoj(s:List U):BO (tb s) N17 QdP false b17:=by kernel_rfl
theorem Qoi(s:List U):BO (tb s) N18 QdO false b18:=by kernel_rfl
theorem Qoh(s:List U):BO (tb s) N19 QdN false b19:=by kernel_rfl
theorem Qog(s:List U):BO (tb s) N20 QdM false b20:=by kernel_rfl
theorem Qof(s:List U):BO (tb s) N21 QdL false b21:=by kernel_rfl
theorem Qoe(s:List U):BO (tb s) N22 QdK false b22:=by kernel_rfl
theorem Qod(s:List U):BO (tb s) N23 QdJ false b23:=by kernel_rfl
theorem Qoc(s:List U):BO (tb s) N24 QdI false b24:=by kernel_rfl
theorem Qob(s:List U):BO (tb s) N25 QdH false b25:=by kernel_rfl
theorem Qoa(s:List U):BO (tb s) N26 QdG false b26:=by kernel_rfl
theorem Qn9(s:List U):BO (tb s) N27 QdF false b27:=by kernel_rfl
theorem Qn8(s:List U):BO (tb s) N28 QdE false b28:=by kernel_rfl
theorem Qn7(s:List U):BO (tb s) N29 QdD false b29:=by kernel_rfl
theorem Qn6(s:List U):BO (tb s) N30 QdC false b30:=by kernel_rfl
theorem Qn5(s:List U):BO (tb s) N31 QdB false b31:=by kernel_rfl
theorem Qn4(s:List U):BO (tb s) N32 QdA false b32:=by kernel_rfl
theorem Qn3(s:List U):BO (tb s) N33 Qdz false b33:=by kernel_rfl
theorem Qn2(s:List U):BO (tb s) N34 Qdy false b34:=by kernel_rfl
theorem Qn1(s:List U):BO (tb s) N35 Qdx false b35:=by kernel_rfl
theorem Qn0(s:List U):BO (tb s) N36 Qdw false b36:=by kernel_rfl
theorem QnZ(s:List U):BO (tb s) N37 Qdv false b37:=by kernel_rfl
theorem QnY(s:List U):BO (tb s) N38 Qdu false b38:=by kernel_rfl
theorem QnX(s:List U):BO (tb s) N39 Qdt false b39:=by kernel_rfl
theorem QnW(s:List U):BO (tb s) N40 Qds false b40:=by kernel_rfl
theorem QnV(s:List U):BO (tb s) N41 Qdr false b41:=by kernel_rfl
theorem QnU(s:List U):BO (tb s) N42 Qdq false b42:=by kernel_rfl
theorem QnT(s:List U):BO (tb s) N43 Qdp false b43:=by kernel_rfl
theorem QnS(s:List U):BO (tb s) N44 Qdo false b44:=by kernel_rfl
theorem QnR(s:List U):BO (tb s) N45 Qdn false b45:=by kernel_rfl
theorem QnQ(s:List U):BO (tb s) N46 Qdm false b46:=by kernel_rfl
theorem QnP(s:List U):BO (tb s) N47 Qdl false b47:=by kernel_rfl
theorem QnO(s:List U):BO (tb s) N48 Qdk false b48:=by kernel_rfl
theorem QnN(s:List U):BO (tb s) N49 Qdj false b49:=by kernel_rfl
theorem QnM(s:List U):BO (tb s) N50 Qdi false b50:=by kernel_rfl
theorem QnL(s:List U):BO (tb s) N51 QcZ true b51:=by kernel_rfl
theorem Qjc(s:List U):YA (tb s) glo Qjv:=JQ (.cons (bo0 s) (.cons (bo1 s) (.cons (bo2 s) (.cons (bo3 s) (.cons (bo4 s) (.cons (bo5 s) (.cons (bo6 s) (.cons (bo7 s) (.cons (bo8 s) (.cons (bo9 s) (.cons (Qoq s) (.cons (Qop s) (.cons (Qoo s) (.cons (Qon s) (.cons (Qom s) (.cons (Qol s) (.cons (Qok s) (.cons (Qoj s) (.cons (Qoi s) (.cons (Qoh s) (.cons (Qog s) (.cons (Qof s) (.cons (Qoe s) (.cons (Qod s) (.cons (Qoc s) (.cons (Qob s) (.cons (Qoa s) (.cons (Qn9 s) (.cons (Qn8 s) (.cons (Qn7 s) (.cons (Qn6 s) (.cons (Qn5 s) (.cons (Qn4 s) (.cons (Qn3 s) (.cons (Qn2 s) (.cons (Qn1 s) (.cons (Qn0 s) (.cons (QnZ s) (.cons (QnY s) (.cons (QnX s) (.cons (QnW s) (.cons (QnV s) (.cons (QnU s) (.cons (QnT s) (.cons (QnS s) (.cons (QnR s) (.cons (QnQ s) (.cons (QnP s) (.cons (QnO s) (.cons (QnN s) (.cons (QnM s) (.cons (QnL s) .nil))))))))))))))))))))))))))))))))))))))))))))))))))))
theorem QnK(s:List U):BO (tbX s) N0 st0 false b0:=by kernel_rfl
theorem QnJ(s:List U):BO (tbX s) N1 st1 false b1:=by kernel_rfl
theorem QnI(s:List U):BO (tbX s) N2 st2 false b2:=by kernel_rfl
theorem QnH(s:List U):BO (tbX s) N3 st3 false b3:=by kernel_rfl
theorem QnG(s:List U):BO (tbX s) N4 st4 false b4:=by kernel_rfl
theorem QnF(s:List U):BO (tbX s) N5 st5 false b5:=by kernel_rfl
theorem QnE(s:List U):BO (tbX s) N6 st6 false b6:=by kernel_rfl
theorem QnD(s:List U):BO (tbX s) N7 st7 false b7:=by kernel_rfl
theorem QnC(s:List U):BO (tbX s) N8 st8 false b8:=by kernel_rfl
theorem QnB(s:List U):BO (tbX s) N9 st9 false b9:=by kernel_rfl
theorem Qlo(s:List U):BO (tbX s) N10 QdW false b10:=by kernel_rfl
theorem Qln(s:List U):BO (tbX s) N11 QdV false b11:=by kernel_rfl
theorem Qlm(s:List U):BO (tbX s) N12 QdU false b12:=by kernel_rfl
theorem Qll(s:List U):BO (tbX s) N13 QdT false b13:=by kernel_rfl
theorem Qlk(s:List U):BO (tbX s) N14 QdS false b14:=by kernel_rfl
theorem Qlj(s:List U):BO (tbX s) N15 QdR false b15:=by kernel_rfl
theorem Qli(s:List U):BO (tbX s) N16 QdQ false b16:=by kernel_rfl
theorem Qlh(s:List U):BO (tbX s) N17 QdP false b17:=by kernel_rfl
theorem Qlg(s:List U):BO (tbX s) N18 QdO false b18:=by kernel_rfl
theorem Qlf(s:List U):BO (tbX s) N19 QdN false b19:=by kernel_rfl
theorem Qle(s:List U):BO (tbX s) N20 QdM false b20:=by kernel_rfl
theorem Qld(s:List U):BO (tbX s) N21 QdL false b21:=by kernel_rfl
theorem Qlc(s:List U):BO (tbX s) N22 QdK false b22:=by kernel_rfl
theorem Qlb(s:List U):BO (tbX s) N23 QdJ false b23:=by kernel_rfl
theorem Qla(s:List U):BO (tbX s) N24 QdI false b24:=by kernel_rfl
theorem Qk9(s:List U):BO (tbX s) N25 QdH false b25:=by kernel_rfl
theorem Qk8(s:List U):BO (tbX s) N26 QdG false b26:=by kernel_rfl
theorem Qk7(s:List U):BO (tbX s) N27 QdF false b27:=by kernel_rfl
theorem Qk6(s:List U):BO (tbX s) N28 QdE false b28:=by kernel_rfl
theorem Qk5(s:List U):BO (tbX s) N29 QdD false b29:=by kernel_rfl
theorem Qk4(s:List U):BO (tbX s) N30 QdC false b30:=by kernel_rfl
theorem Qk3(s:List U):BO (tbX s) N31 QdB false b31:=by kernel_rfl
theorem Qk2(s:List U):BO (tbX s) N32 QdA false b32:=by kernel_rfl
theorem Qk1(s:List U):BO (tbX s) N33 Qdz false b33:=by kernel_rfl
theorem Qk0(s:List U):BO (tbX s) N34 Qdy false b34:=by kernel_rfl
theorem QkZ(s:List U):BO (tbX s) N35 Qdx false b35:=by kernel_rfl
theorem QkY(s:List U):BO (tbX s) N36 Qdw false b36:=by kernel_rfl
theorem QkX(s:List U):BO (tbX s) N37 Qdv false b37:=by kernel_rfl
theorem QkW(s:List U):BO (tbX s) N38 Qdu false b38:=by kernel_rfl
theorem QkV(s:List U):BO (tbX s) N39 Qdt false b39:=by kernel_rfl
theorem QkU(s:List U):BO (tbX s) N40 Qds false b40:=by kernel_rfl
theorem QkT(s:List U):BO (tbX s) N41 Qdr false b41:=by kernel_rfl
theorem QkS(s:List U):BO (tbX s) N42 Qdq false b42:=by kernel_rfl
theorem QkR(s:List U):BO (tbX s) N43 Qdp false b43:=by kernel_rfl
theorem QkQ(s:List U):BO (tbX s) N44 Qdo false b44:=by kernel_rfl
theorem QkP(s:List U):BO (tbX s) N45 Qdn false b45:=by kernel_rfl
theorem QkO(s:List U):BO (tbX s) N46 Qdm false b46:=by kernel_rfl
theorem QkN(s:List U):BO (tbX s) N47 Qdl false b47:=by kernel_rfl
theorem QkM(s:List U):BO (tbX s) N48 Qdk false b48:=by kernel_rfl
theorem QkL(s:List U):BO (tbX s) N49 Qdj false b49:=by kernel_rfl
theorem QkK(s:List U):BO (tbX s) N50 Qdi false b50:=by kernel_rfl
theorem QkJ(s:List U):BO (tbX s) N51 QcZ true b51:=by kernel_rfl
theorem Qg5(s:List U):YA (tbX s) glo Qjv:=JQ (.cons (QnK s) (.cons (QnJ s) (.cons (QnI s) (.cons (QnH s) (.cons (QnG s) (.cons (QnF s) (.cons (QnE s) (.cons (QnD s) (.cons (QnC s) (.cons (QnB s) (.cons (Qlo s) (.cons (Qln s) (.cons (Qlm s) (.cons (Qll s) (.cons (Qlk s) (.cons (Qlj s) (.cons (Qli s) (.cons (Qlh s) (.cons (Qlg s) (.cons (Qlf s) (.cons (Qle s) (.cons (Qld s) (.cons (Qlc s) (.cons (Qlb s) (.cons (Qla s) (.cons (Qk9 s) (.cons (Qk8 s) (.cons (Qk7 s) (.cons (Qk6 s) (.cons (Qk5 s) (.cons (Qk4 s) (.cons (Qk3 s) (.cons (Qk2 s) (.cons (Qk1 s) (.cons (Qk0 s) (.cons (QkZ s) (.cons (QkY s) (.cons (QkX s) (.cons (QkW s) (.cons (QkV s) (.cons (QkU s) (.cons (QkT s) (.cons (QkS s) (.cons (QkR s) (.cons (QkQ s) (.cons (QkP s) (.cons (QkO s) (.cons (QkN s) (.cons (QkM s) (.cons (QkL s) (.cons (QkK s) (.cons (QkJ s) .nil))))))))))))))))))))))))))))))))))))))))))))))))))))
noncomputable abbrev fI(K:W.Frag)(c:Addr)(x:Str)(v:Option Value):Prop:=W.findIn K (.ref c) x=some v
noncomputable abbrev kO(K:W.Frag)(c d:Addr)(b:Bool):Prop:=W.kitOne K (.ref c) (.ref d)=some b
theorem all_mk{l:W.OpenLaw}{w:World}{K:W.Frag}{h:Heap}{mg:Str->Option Value}{f0 f1 f2 f3 f4 f5 f6 f7 f8 f9 f10 f11 f12 f13 f14 f15 f16 f17 f18 f19 f20 f21 f22 f23 f24 f25 f26 f27 f28 f29 f30 f31 f32 f33 f34 f35 f36 f37 f38 f39 f40 f41 f42 f43 f44 f45 f46 f47 f48 f49 f50 f51 c0 c1 c2 c3 c4 c5 c6 c7 c8 c9 c10 c11 c12 c13 c14 c15 c16 c17 c18 c19 c20 c21 fa:Addr}(X:K.In h)(G:h.Ns mainGlobals mg)(hfa:mg "law"=some (.ref fa))
  {od0 od1 od2 od3 od4 od5 od6 od7 od8 od9 od10 od11 od12 od13 od14 od15 od16 od17 od18 od19 od20 od21 od22 od23 od24 od25 od26 od27 od28 od29 od30 od31 od32 od33 od34 od35 od36 od37 od38 od39 od40 od41 od42 od43 od44 od45 od46 od47 od48 od49 od50 od51 an0 an1 an2 an3 an4 an5 an6 an7 an8 an9 an10 an11 an12 an13 an14 an15 an16 an17 an18 an19 an20 an21 an22 an23 an24 an25 an26 an27 an28 an29 an30 an31 an32 an33 an34 an35 an36 an37 an38 an39 an40 an41 an42 an43 an44 an45 an46 an47 an48 an49 an50 an51:Option Addr} {sl0 sl1 sl2 sl3 sl4 sl5 sl6 sl7 sl8 sl9 sl10 sl11 sl12 sl13 sl14 sl15 sl16 sl17 sl18 sl19 sl20 sl21 sl22 sl23 sl24 sl25 sl26 sl27 sl28 sl29 sl30 sl31 sl32 sl33 sl34 sl35 sl36 sl37 sl38 sl39 sl40 sl41 sl42 sl43 sl44 sl45 sl46 sl47 sl48 sl49 sl50 sl51:Array (Option Value)} {oc0 oc1 oc2 oc3 oc4 oc5 oc6 oc7 oc8 oc9 oc10 oc11 oc12 oc13 oc14 oc15 oc16 oc17 oc18 oc19 oc20 oc21 oc22 oc23 oc24 oc25 oc26 oc27 oc28 oc29 oc30 oc31 oc32 oc33 oc34 oc35 oc36 oc37 oc38 oc39 oc40 oc41 oc42 oc43 oc44 oc45 oc46 oc47 oc48 oc49 oc50 oc51 kV0 kV1 kV2 kV3 kV4 kV5 kV6 kV7 kV8 kV9 kV10 kV11 kV12 kV13 kV14 kV15 kV16 kV17 kV18 kV19 kV20 kV21 kV22 kV23 kV24 kV25 kV26 kV27 kV28 kV29 kV30 kV31 kV32 kV33 kV34 kV35 kV36 kV37 kV38 kV39 kV40 kV41 kV42 kV43 kV44 kV45 kV46 kV47 kV48 kV49 kV50 kV51 dc0 dc1 dc2 dc3 dc4 dc5 dc6 dc7 dc8 dc9 dc10 dc11 dc12 dc13 dc14 dc15 dc16 dc17 dc18 dc19 dc20 dc21 dc22 dc23 dc24 dc25 dc26 dc27 dc28 dc29 dc30 dc31 dc32 dc33 dc34 dc35 dc36 dc37 dc38 dc39 dc40 dc41 dc42 dc43 dc44 dc45 dc46 dc47 dc48 dc49 dc50 dc51 pm0 pm1 pm2 pm3 pm4 pm5 pm6 pm7 pm8 pm9 pm10 pm11 pm12 pm13 pm14 pm15 pm16 pm17 pm18 pm19 pm20 pm21 pm22 pm23 pm24 pm25 pm26 pm27 pm28 pm29 pm30 pm31 pm32 pm33 pm34 pm35 pm36 pm37 pm38 pm39 pm40 pm41 pm42 pm43 pm44 pm45 pm46 pm47 pm48 pm49 pm50 pm51 cd0 cd1 cd2 cd3 cd4 cd5 cd6 cd7 cd8 cd9 cd10 cd11 cd12 cd13 cd14 cd15 cd16 cd17 cd18 cd19 cd20 cd21 cd22 cd23 cd24 cd25 cd26 cd27 cd28 cd29 cd30 cd31 cd32 cd33 cd34 cd35 cd36 cd37 cd38 cd39 cd40 cd41 cd42 cd43 cd44 cd45 cd46 cd47 cd48 cd49 cd50 cd51 ct0 ct1 ct2 ct3 ct4 ct5 ct6 ct7 ct8 ct9 ct10 ct11 ct12 ct13 ct14 ct15 ct16 ct17 ct18 ct19 ct20 ct21 ct22 ct23 ct24 ct25 ct26 ct27 ct28 ct29 ct30 ct31 ct32 ct33 ct34 ct35 ct36 ct37 ct38 ct39 ct40 ct41 ct42 ct43 ct44 ct45 ct46 ct47 ct48 ct49 ct50 ct51:Value}
  {kk0 kk1 kk2 kk3 kk4 kk5 kk6 kk7 kk8:Addr}
  {y0_0 y0_1 y0_2 y0_3:Tok} {p0:Nat}
  {h1_0 h1_1:Int} {z1_0 y1_0 z1_1 y1_1:Tok} {p1:Nat}
  {h2_0 h2_1:Int} {z2_0 y2_0 z2_1 y2_1:Tok} {p2:Nat}
  {h3_0 h3_1:Int} {z3_0 y3_0 z3_1 y3_1:Tok} {p3:Nat}
  {h4_0 h4_1:Int} {z4_0 y4_0 z4_1 y4_1:Tok} {p4:Nat}
  {y5_0 y5_1:Tok} {p5:Nat}
  {y6_0 y6_1:Tok} {p6:Nat}
  {h7_0 h7_1 h7_2:Int} {z7_0 y7_0 z7_1 y7_1 z7_2 y7_2:Tok} {p7:Nat}
  {h8_0 h8_1 h8_2 h8_3:Int} {z8_0 y8_0 z8_1 y8_1 z8_2 y8_2 z8_3 y8_3:Tok} {p8:Nat}
  (n0:W.nsIn K mainGlobals "Stitch"=some (some (.ref c0)))
  (n1:W.nsIn K mainGlobals "Plain"=some (some (.ref c1)))
  (n2:W.nsIn K mainGlobals "Slip"=some (some (.ref c2)))
  (n3:W.nsIn K mainGlobals "Over"=some (some (.ref c3)))
  (n4:W.nsIn K mainGlobals "Lean"=some (some (.ref c4)))
  (n5:W.nsIn K mainGlobals "Grow"=some (some (.ref c5)))
  (n6:W.nsIn K mainGlobals "Cross"=some (some (.ref c6)))
  (n7:W.nsIn K mainGlobals "Off"=some (some (.ref c7)))
  (n8:W.nsIn K mainGlobals "Keep"=some (some (.ref c8)))
  (n9:W.nsIn K mainGlobals "Fetch"=some (some (.ref c9)))
  (a0:fI K c0 "ties" (some (.ref f0)))
  (i0:W.isFn K (.ref f0)=true)
  (l0:K.lookup f0=some ⟨oc0,od0,.func (W.fnOf "ties" "Stitch.ties" (Qd st0) (Qc st0) (Qa st0) .none kV0 dc0 pm0 an0 cd0 ct0),sl0⟩)
  (e0:W.codeIn K cd0 "Stitch.ties"=true)
  (k0:W.keepIn K (.ref f0)=true)
  (a1:fI K c0 "ends" (some (.ref f1)))
  (i1:W.isFn K (.ref f1)=true)
  (l1:K.lookup f1=some ⟨oc1,od1,.func (W.fnOf "ends" "Stitch.ends" (Qd st1) (Qc st1) (Qa st1) .none kV1 dc1 pm1 an1 cd1 ct1),sl1⟩)
  (e1:W.codeIn K cd1 "Stitch.ends"=true)
  (k1:W.keepIn K (.ref f1)=true)
  (a2:fI K c1 "__init__" (some (.ref f2)))
  (i2:W.isFn K (.ref f2)=true)
  (l2:K.lookup f2=some ⟨oc2,od2,.func (W.fnOf "__init__" "Plain.__init__" (Qd st2) (Qc st2) (Qa st2) .none kV2 dc2 pm2 an2 cd2 ct2),sl2⟩)
  (e2:W.codeIn K cd2 "Plain.__init__"=true)
  (k2:W.keepIn K (.ref f2)=true)
  (a3:fI K c1 "takes" (some (.ref f3)))
  (i3:W.isFn K (.ref f3)=true)
  (l3:K.lookup f3=some ⟨oc3,od3,.func (W.fnOf "takes" "Plain.takes" (Qd st3) (Qc st3) (Qa st3) .none kV3 dc3 pm3 an3 cd3 ct3),sl3⟩)
  (e3:W.codeIn K cd3 "Plain.takes"=true)
  (k3:W.keepIn K (.ref f3)=true)
  (a4:fI K c1 "ties" (some (.ref f4)))
  (i4:W.isFn K (.ref f4)=true)
  (l4:K.lookup f4=some ⟨oc4,od4,.func (W.fnOf "ties" "Plain.ties" (Qd st4) (Qc st4) (Qa st4) .none kV4 dc4 pm4 an4 cd4 ct4),sl4⟩)
  (e4:W.codeIn K cd4 "Plain.ties"=true)
  (k4:W.keepIn K (.ref f4)=true)
  (a5:fI K c1 "mark" (some (.ref f5)))
  (i5:W.isFn K (.ref f5)=true)
  (l5:K.lookup f5=some ⟨oc5,od5,.func (W.fnOf "mark" "Plain.mark" (Qd st5) (Qc st5) (Qa st5) .none kV5 dc5 pm5 an5 cd5 ct5),sl5⟩)
  (e5:W.codeIn K cd5 "Plain.mark"=true)
  (k5:W.keepIn K (.ref f5)=true)
  (a6:fI K c2 "takes" (some (.ref f6)))
  (i6:W.isFn K (.ref f6)=true)
  (l6:K.lookup f6=some ⟨oc6,od6,.func (W.fnOf "takes" "Slip.takes" (Qd st6) (Qc st6) (Qa st6) .none kV6 dc6 pm6 an6 cd6 ct6),sl6⟩)
  (e6:W.codeIn K cd6 "Slip.takes"=true)
  (k6:W.keepIn K (.ref f6)=true)
  (a7:fI K c2 "ties" (some (.ref f7)))
  (i7:W.isFn K (.ref f7)=true)
  (l7:K.lookup f7=some ⟨oc7,od7,.func (W.fnOf "ties" "Slip.ties" (Qd st7) (Qc st7) (Qa st7) .none kV7 dc7 pm7 an7 cd7 ct7),sl7⟩)
  (e7:W.codeIn K cd7 "Slip.ties"=true)
  (k7:W.keepIn K (.ref f7)=true)
  (a8:fI K c2 "mark" (some (.ref f8)))
  (i8:W.isFn K (.ref f8)=true)
  (l8:K.lookup f8=some ⟨oc8,od8,.func (W.fnOf "mark" "Slip.mark" (Qd st8) (Qc st8) (Qa st8) .none kV8 dc8 pm8 an8 cd8 ct8),sl8⟩)
  (e8:W.codeIn K cd8 "Slip.mark"=true)
  (k8:W.keepIn K (.ref f8)=true)
  (a9:fI K c3 "takes" (some (.ref f9)))
  (i9:W.isFn K (.ref f9)=true)
  (l9:K.lookup f9=some ⟨oc9,od9,.func (W.fnOf "takes" "Over.takes" (Qd st9) (Qc st9) (Qa st9) .none kV9 dc9 pm9 an9 cd9 ct9),sl9⟩)
  (e9:W.codeIn K cd9 "Over.takes"=true)
  (k9:W.keepIn K (.ref f9)=true)
  (a10:fI K c3 "ties" (some (.ref f10)))
  (i10:W.isFn K (.ref f10)=true)
  (l10:K.lookup f10=some ⟨oc10,od10,.func (W.fnOf "ties" "Over.ties" (Qd QdW) (Qc QdW) (Qa QdW) .none kV10 dc10 pm10 an10 cd10 ct10),sl10⟩)
  (e10:W.codeIn K cd10 "Over.ties"=true)
  (k10:W.keepIn K (.ref f10)=true)
  (a11:fI K c3 "mark" (some (.ref f11)))
  (i11:W.isFn K (.ref f11)=true)
  (l11:K.lookup f11=some ⟨oc11,od11,.func (W.fnOf "mark" "Over.mark" (Qd QdV) (Qc QdV) (Qa QdV) .none kV11 dc11 pm11 an11 cd11 ct11),sl11⟩)
  (e11:W.codeIn K cd11 "Over.mark"=true)
  (k11:W.keepIn K (.ref f11)=true)
  (a12:fI K c4 "__init__" (some (.ref f12)))
  (i12:W.isFn K (.ref f12)=true)
  (l12:K.lookup f12=some ⟨oc12,od12,.func (W.fnOf "__init__" "Lean.__init__" (Qd QdU) (Qc QdU) (Qa QdU) .none kV12 dc12 pm12 an12 cd12 ct12),sl12⟩)
  (e12:W.codeIn K cd12 "Lean.__init__"=true)
  (k12:W.keepIn K (.ref f12)=true)
  (a13:fI K c4 "takes" (some (.ref f13)))
  (i13:W.isFn K (.ref f13)=true)
  (l13:K.lookup f13=some ⟨oc13,od13,.func (W.fnOf "takes" "Lean.takes" (Qd QdT) (Qc QdT) (Qa QdT) .none kV13 dc13 pm13 an13 cd13 ct13),sl13⟩)
  (e13:W.codeIn K cd13 "Lean.takes"=true)
  (k13:W.keepIn K (.ref f13)=true)
  (a14:fI K c4 "ties" (some (.ref f14)))
  (i14:W.isFn K (.ref f14)=true)
  (l14:K.lookup f14=some ⟨oc14,od14,.func (W.fnOf "ties" "Lean.ties" (Qd QdS) (Qc QdS) (Qa QdS) .none kV14 dc14 pm14 an14 cd14 ct14),sl14⟩)
  (e14:W.codeIn K cd14 "Lean.ties"=true)
  (k14:W.keepIn K (.ref f14)=true)
  (a15:fI K c4 "mark" (some (.ref f15)))
  (i15:W.isFn K (.ref f15)=true)
  (l15:K.lookup f15=some ⟨oc15,od15,.func (W.fnOf "mark" "Lean.mark" (Qd QdR) (Qc QdR) (Qa QdR) .none kV15 dc15 pm15 an15 cd15 ct15),sl15⟩)
  (e15:W.codeIn K cd15 "Lean.mark"=true)
  (k15:W.keepIn K (.ref f15)=true)
  (a16:fI K c5 "__init__" (some (.ref f16)))
  (i16:W.isFn K (.ref f16)=true)
  (l16:K.lookup f16=some ⟨oc16,od16,.func (W.fnOf "__init__" "Grow.__init__" (Qd QdQ) (Qc QdQ) (Qa QdQ) .none kV16 dc16 pm16 an16 cd16 ct16),sl16⟩)
  (e16:W.codeIn K cd16 "Grow.__init__"=true)
  (k16:W.keepIn K (.ref f16)=true)
  (a17:fI K c5 "takes" (some (.ref f17)))
  (i17:W.isFn K (.ref f17)=true)
  (l17:K.lookup f17=some ⟨oc17,od17,.func (W.fnOf "takes" "Grow.takes" (Qd QdP) (Qc QdP) (Qa QdP) .none kV17 dc17 pm17 an17 cd17 ct17),sl17⟩)
  (e17:W.codeIn K cd17 "Grow.takes"=true)
  (k17:W.keepIn K (.ref f17)=true)
  (a18:fI K c5 "ties" (some (.ref f18)))
  (i18:W.isFn K (.ref f18)=true)
  (l18:K.lookup f18=some ⟨oc18,od18,.func (W.fnOf "ties" "Grow.ties" (Qd QdO) (Qc QdO) (Qa QdO) .none kV18 dc18 pm18 an18 cd18 ct18),sl18⟩)
  (e18:W.codeIn K cd18 "Grow.ties"=true)
  (k18:W.keepIn K (.ref f18)=true)
  (a19:fI K c5 "mark" (some (.ref f19)))
  (i19:W.isFn K (.ref f19)=true)
  (l19:K.lookup f19=some ⟨oc19,od19,.func (W.fnOf "mark" "Grow.mark" (Qd QdN) (Qc QdN) (Qa QdN) .none kV19 dc19 pm19 an19 cd19 ct19),sl19⟩)
  (e19:W.codeIn K cd19 "Grow.mark"=true)
  (k19:W.keepIn K (.ref f19)=true)
  (a20:fI K c6 "__init__" (some (.ref f20)))
  (i20:W.isFn K (.ref f20)=true)
  (l20:K.lookup f20=some ⟨oc20,od20,.func (W.fnOf "__init__" "Cross.__init__" (Qd QdM) (Qc QdM) (Qa QdM) .none kV20 dc20 pm20 an20 cd20 ct20),sl20⟩)
  (e20:W.codeIn K cd20 "Cross.__init__"=true)
  (k20:W.keepIn K (.ref f20)=true)
  (a21:fI K c6 "takes" (some (.ref f21)))
  (i21:W.isFn K (.ref f21)=true)
  (l21:K.lookup f21=some ⟨oc21,od21,.func (W.fnOf "takes" "Cross.takes" (Qd QdL) (Qc QdL) (Qa QdL) .none kV21 dc21 pm21 an21 cd21 ct21),sl21⟩)
  (e21:W.codeIn K cd21 "Cross.takes"=true)
  (k21:W.keepIn K (.ref f21)=true)
  (a22:fI K c6 "ties" (some (.ref f22)))
  (i22:W.isFn K (.ref f22)=true)
  (l22:K.lookup f22=some ⟨oc22,od22,.func (W.fnOf "ties" "Cross.ties" (Qd QdK) (Qc QdK) (Qa QdK) .none kV22 dc22 pm22 an22 cd22 ct22),sl22⟩)
  (e22:W.codeIn K cd22 "Cross.ties"=true)
  (k22:W.keepIn K (.ref f22)=true)
  (a23:fI K c6 "mark" (some (.ref f23)))
  (i23:W.isFn K (.ref f23)=true)
  (l23:K.lookup f23=some ⟨oc23,od23,.func (W.fnOf "mark" "Cross.mark" (Qd QdJ) (Qc QdJ) (Qa QdJ) .none kV23 dc23 pm23 an23 cd23 ct23),sl23⟩)
  (e23:W.codeIn K cd23 "Cross.mark"=true)
  (k23:W.keepIn K (.ref f23)=true)
  (a24:fI K c7 "takes" (some (.ref f24)))
  (i24:W.isFn K (.ref f24)=true)
  (l24:K.lookup f24=some ⟨oc24,od24,.func (W.fnOf "takes" "Off.takes" (Qd QdI) (Qc QdI) (Qa QdI) .none kV24 dc24 pm24 an24 cd24 ct24),sl24⟩)
  (e24:W.codeIn K cd24 "Off.takes"=true)
  (k24:W.keepIn K (.ref f24)=true)
  (a25:fI K c7 "ends" (some (.ref f25)))
  (i25:W.isFn K (.ref f25)=true)
  (l25:K.lookup f25=some ⟨oc25,od25,.func (W.fnOf "ends" "Off.ends" (Qd QdH) (Qc QdH) (Qa QdH) .none kV25 dc25 pm25 an25 cd25 ct25),sl25⟩)
  (e25:W.codeIn K cd25 "Off.ends"=true)
  (k25:W.keepIn K (.ref f25)=true)
  (a26:fI K c7 "mark" (some (.ref f26)))
  (i26:W.isFn K (.ref f26)=true)
  (l26:K.lookup f26=some ⟨oc26,od26,.func (W.fnOf "mark" "Off.mark" (Qd QdG) (Qc QdG) (Qa QdG) .none kV26 dc26 pm26 an26 cd26 ct26),sl26⟩)
  (e26:W.codeIn K cd26 "Off.mark"=true)
  (k26:W.keepIn K (.ref f26)=true)
  (a27:fI K c8 "__init__" (some (.ref f27)))
  (i27:W.isFn K (.ref f27)=true)
  (l27:K.lookup f27=some ⟨oc27,od27,.func (W.fnOf "__init__" "Keep.__init__" (Qd QdF) (Qc QdF) (Qa QdF) .none kV27 dc27 pm27 an27 cd27 ct27),sl27⟩)
  (e27:W.codeIn K cd27 "Keep.__init__"=true)
  (k27:W.keepIn K (.ref f27)=true)
  (a28:fI K c8 "takes" (some (.ref f28)))
  (i28:W.isFn K (.ref f28)=true)
  (l28:K.lookup f28=some ⟨oc28,od28,.func (W.fnOf "takes" "Keep.takes" (Qd QdE) (Qc QdE) (Qa QdE) .none kV28 dc28 pm28 an28 cd28 ct28),sl28⟩)
  (e28:W.codeIn K cd28 "Keep.takes"=true)
  (k28:W.keepIn K (.ref f28)=true)
  (a29:fI K c8 "ends" (some (.ref f29)))
  (i29:W.isFn K (.ref f29)=true)
  (l29:K.lookup f29=some ⟨oc29,od29,.func (W.fnOf "ends" "Keep.ends" (Qd QdD) (Qc QdD) (Qa QdD) .none kV29 dc29 pm29 an29 cd29 ct29),sl29⟩)
  (e29:W.codeIn K cd29 "Keep.ends"=true)
  (k29:W.keepIn K (.ref f29)=true)
  (a30:fI K c8 "mark" (some (.ref f30)))
  (i30:W.isFn K (.ref f30)=true)
  (l30:K.lookup f30=some ⟨oc30,od30,.func (W.fnOf "mark" "Keep.mark" (Qd QdC) (Qc QdC) (Qa QdC) .none kV30 dc30 pm30 an30 cd30 ct30),sl30⟩)
  (e30:W.codeIn K cd30 "Keep.mark"=true)
  (k30:W.keepIn K (.ref f30)=true)
  (a31:fI K c9 "__init__" (some (.ref f31)))
  (i31:W.isFn K (.ref f31)=true)
  (l31:K.lookup f31=some ⟨oc31,od31,.func (W.fnOf "__init__" "Fetch.__init__" (Qd QdB) (Qc QdB) (Qa QdB) .none kV31 dc31 pm31 an31 cd31 ct31),sl31⟩)
  (e31:W.codeIn K cd31 "Fetch.__init__"=true)
  (k31:W.keepIn K (.ref f31)=true)
  (a32:fI K c9 "takes" (some (.ref f32)))
  (i32:W.isFn K (.ref f32)=true)
  (l32:K.lookup f32=some ⟨oc32,od32,.func (W.fnOf "takes" "Fetch.takes" (Qd QdA) (Qc QdA) (Qa QdA) .none kV32 dc32 pm32 an32 cd32 ct32),sl32⟩)
  (e32:W.codeIn K cd32 "Fetch.takes"=true)
  (k32:W.keepIn K (.ref f32)=true)
  (a33:fI K c9 "ties" (some (.ref f33)))
  (i33:W.isFn K (.ref f33)=true)
  (l33:K.lookup f33=some ⟨oc33,od33,.func (W.fnOf "ties" "Fetch.ties" (Qd Qdz) (Qc Qdz) (Qa Qdz) .none kV33 dc33 pm33 an33 cd33 ct33),sl33⟩)
  (e33:W.codeIn K cd33 "Fetch.ties"=true)
  (k33:W.keepIn K (.ref f33)=true)
  (a34:fI K c9 "mark" (some (.ref f34)))
  (i34:W.isFn K (.ref f34)=true)
  (l34:K.lookup f34=some ⟨oc34,od34,.func (W.fnOf "mark" "Fetch.mark" (Qd Qdy) (Qc Qdy) (Qa Qdy) .none kV34 dc34 pm34 an34 cd34 ct34),sl34⟩)
  (e34:W.codeIn K cd34 "Fetch.mark"=true)
  (k34:W.keepIn K (.ref f34)=true)
  (a35:W.nsIn K mainGlobals "stitch"=some (some (.ref f35)))
  (l35:K.lookup f35=some ⟨oc35,od35,.func (W.fnOf "stitch" "stitch" (Qd Qdx) (Qc Qdx) (Qa Qdx) .none kV35 dc35 pm35 an35 cd35 ct35),sl35⟩)
  (e35:W.codeIn K cd35 "stitch"=true)
  (k35:W.keepIn K (.ref f35)=true)
  (a36:W.nsIn K mainGlobals "stitch_of_text"=some (some (.ref f36)))
  (l36:K.lookup f36=some ⟨oc36,od36,.func (W.fnOf "stitch_of_text" "stitch_of_text" (Qd Qdw) (Qc Qdw) (Qa Qdw) .none kV36 dc36 pm36 an36 cd36 ct36),sl36⟩)
  (e36:W.codeIn K cd36 "stitch_of_text"=true)
  (k36:W.keepIn K (.ref f36)=true)
  (a37:W.nsIn K mainGlobals "bare_stitch"=some (some (.ref f37)))
  (l37:K.lookup f37=some ⟨oc37,od37,.func (W.fnOf "bare_stitch" "bare_stitch" (Qd Qdv) (Qc Qdv) (Qa Qdv) .none kV37 dc37 pm37 an37 cd37 ct37),sl37⟩)
  (e37:W.codeIn K cd37 "bare_stitch"=true)
  (k37:W.keepIn K (.ref f37)=true)
  (a38:W.nsIn K mainGlobals "keeper_stitch"=some (some (.ref f38)))
  (l38:K.lookup f38=some ⟨oc38,od38,.func (W.fnOf "keeper_stitch" "keeper_stitch" (Qd Qdu) (Qc Qdu) (Qa Qdu) .none kV38 dc38 pm38 an38 cd38 ct38),sl38⟩)
  (e38:W.codeIn K cd38 "keeper_stitch"=true)
  (k38:W.keepIn K (.ref f38)=true)
  (a39:W.nsIn K mainGlobals "sided_stitch"=some (some (.ref f39)))
  (l39:K.lookup f39=some ⟨oc39,od39,.func (W.fnOf "sided_stitch" "sided_stitch" (Qd Qdt) (Qc Qdt) (Qa Qdt) .none kV39 dc39 pm39 an39 cd39 ct39),sl39⟩)
  (e39:W.codeIn K cd39 "sided_stitch"=true)
  (k39:W.keepIn K (.ref f39)=true)
  (a40:W.nsIn K mainGlobals "crossing"=some (some (.ref f40)))
  (l40:K.lookup f40=some ⟨oc40,od40,.func (W.fnOf "crossing" "crossing" (Qd Qds) (Qc Qds) (Qa Qds) .none kV40 dc40 pm40 an40 cd40 ct40),sl40⟩)
  (e40:W.codeIn K cd40 "crossing"=true)
  (k40:W.keepIn K (.ref f40)=true)
  (a41:W.nsIn K mainGlobals "_law_same"=some (some (.ref f41)))
  (l41:K.lookup f41=some ⟨oc41,od41,.func (W.fnOf "_law_same" "_law_same" (Qd Qdr) (Qc Qdr) (Qa Qdr) .none kV41 dc41 pm41 an41 cd41 ct41),sl41⟩)
  (e41:W.codeIn K cd41 "_law_same"=true)
  (k41:W.keepIn K (.ref f41)=true)
  (a42:W.nsIn K mainGlobals "_law_told"=some (some (.ref f42)))
  (l42:K.lookup f42=some ⟨oc42,od42,.func (W.fnOf "_law_told" "_law_told" (Qd Qdq) (Qc Qdq) (Qa Qdq) .none kV42 dc42 pm42 an42 cd42 ct42),sl42⟩)
  (e42:W.codeIn K cd42 "_law_told"=true)
  (k42:W.keepIn K (.ref f42)=true)
  (a43:W.nsIn K mainGlobals "_law_mark"=some (some (.ref f43)))
  (l43:K.lookup f43=some ⟨oc43,od43,.func (W.fnOf "_law_mark" "_law_mark" (Qd Qdp) (Qc Qdp) (Qa Qdp) .none kV43 dc43 pm43 an43 cd43 ct43),sl43⟩)
  (e43:W.codeIn K cd43 "_law_mark"=true)
  (k43:W.keepIn K (.ref f43)=true)
  (a44:W.nsIn K mainGlobals "_law_ties"=some (some (.ref f44)))
  (l44:K.lookup f44=some ⟨oc44,od44,.func (W.fnOf "_law_ties" "_law_ties" (Qd Qdo) (Qc Qdo) (Qa Qdo) .none kV44 dc44 pm44 an44 cd44 ct44),sl44⟩)
  (e44:W.codeIn K cd44 "_law_ties"=true)
  (k44:W.keepIn K (.ref f44)=true)
  (a45:W.nsIn K mainGlobals "_law_ends"=some (some (.ref f45)))
  (l45:K.lookup f45=some ⟨oc45,od45,.func (W.fnOf "_law_ends" "_law_ends" (Qd Qdn) (Qc Qdn) (Qa Qdn) .none kV45 dc45 pm45 an45 cd45 ct45),sl45⟩)
  (e45:W.codeIn K cd45 "_law_ends"=true)
  (k45:W.keepIn K (.ref f45)=true)
  (a46:W.nsIn K mainGlobals "_law_takes"=some (some (.ref f46)))
  (l46:K.lookup f46=some ⟨oc46,od46,.func (W.fnOf "_law_takes" "_law_takes" (Qd Qdm) (Qc Qdm) (Qa Qdm) .none kV46 dc46 pm46 an46 cd46 ct46),sl46⟩)
  (e46:W.codeIn K cd46 "_law_takes"=true)
  (k46:W.keepIn K (.ref f46)=true)
  (a47:W.nsIn K mainGlobals "_law_sign_by"=some (some (.ref f47)))
  (l47:K.lookup f47=some ⟨oc47,od47,.func (W.fnOf "_law_sign_by" "_law_sign_by" (Qd Qdl) (Qc Qdl) (Qa Qdl) .none kV47 dc47 pm47 an47 cd47 ct47),sl47⟩)
  (e47:W.codeIn K cd47 "_law_sign_by"=true)
  (k47:W.keepIn K (.ref f47)=true)
  (a48:W.nsIn K mainGlobals "_law_thing"=some (some (.ref f48)))
  (l48:K.lookup f48=some ⟨oc48,od48,.func (W.fnOf "_law_thing" "_law_thing" (Qd Qdk) (Qc Qdk) (Qa Qdk) .none kV48 dc48 pm48 an48 cd48 ct48),sl48⟩)
  (e48:W.codeIn K cd48 "_law_thing"=true)
  (k48:W.keepIn K (.ref f48)=true)
  (a49:W.nsIn K mainGlobals "_law_of_class"=some (some (.ref f49)))
  (l49:K.lookup f49=some ⟨oc49,od49,.func (W.fnOf "_law_of_class" "_law_of_class" (Qd Qdj) (Qc Qdj) (Qa Qdj) .none kV49 dc49 pm49 an49 cd49 ct49),sl49⟩)
  (e49:W.codeIn K cd49 "_law_of_class"=true)
  (k49:W.keepIn K (.ref f49)=true)
  (a50:W.nsIn K mainGlobals "_law_refused"=some (some (.ref f50)))
  (l50:K.lookup f50=some ⟨oc50,od50,.func (W.fnOf "_law_refused" "_law_refused" (Qd Qdi) (Qc Qdi) (Qa Qdi) .none kV50 dc50 pm50 an50 cd50 ct50),sl50⟩)
  (e50:W.codeIn K cd50 "_law_refused"=true)
  (k50:W.keepIn K (.ref f50)=true)
  (a51:W.nsIn K mainGlobals "law"=some (some (.ref f51)))
  (l51:K.lookup f51=some ⟨oc51,od51,.func (W.fnOf "law" "law" (Qd QcZ) (Qc QcZ) (Qa QcZ) .none kV51 dc51 pm51 an51 cd51 ct51),sl51⟩)
  (e51:W.codeIn K cd51 "law"=true)
  (k51:W.keepIn K (.ref f51)=true)
  (hn:W.specialIn K (.builtin "object.__class__") "__get__"=some (some (.builtin "getset_descriptor.__get__")))
  (htk:W.takesIn K (.builtin "object.__class__")=some true)
  (pg0:W.plainGet K c0 Str.empty=true)
  (hd0:W.hasDictIn K c0=true)
  (po0:W.plainOver K c0=true)
  (sa0:fI K c0 "__setattr__" (some (.builtin "object.__setattr__")))
  (mk0:W.makesIn K c0=true)
  (kc0:W.keepIn K (.ref c0)=true)
  (ha0:fI K c0 "__class__" (some (.builtin "object.__class__")))
  (hm0:W.mroIn K c0 (.type "object")=some true)
  (ii0:fI K c0 "__init__" (some (.builtin "object.__init__")))
  (x0_0:fI K c0 "side" none)
  (x0_1:fI K c0 "many" none)
  (x0_2:fI K c0 "way" none)
  (x0_3:fI K c0 "first" none)
  (x0_4:fI K c0 "second" none)
  (x0_5:fI K c0 "keeper" none)
  (pg1:W.plainGet K c1 Str.empty=true)
  (hd1:W.hasDictIn K c1=true)
  (po1:W.plainOver K c1=true)
  (sa1:fI K c1 "__setattr__" (some (.builtin "object.__setattr__")))
  (mk1:W.makesIn K c1=true)
  (kc1:W.keepIn K (.ref c1)=true)
  (ha1:fI K c1 "__class__" (some (.builtin "object.__class__")))
  (hm1:W.mroIn K c1 (.type "object")=some true)
  (m1_1:fI K c1 "ends" (some (.ref f1)))
  (x1_0:fI K c1 "side" none)
  (x1_1:fI K c1 "many" none)
  (x1_2:fI K c1 "way" none)
  (x1_3:fI K c1 "first" none)
  (x1_4:fI K c1 "second" none)
  (x1_5:fI K c1 "keeper" none)
  (pg2:W.plainGet K c2 Str.empty=true)
  (hd2:W.hasDictIn K c2=true)
  (po2:W.plainOver K c2=true)
  (sa2:fI K c2 "__setattr__" (some (.builtin "object.__setattr__")))
  (mk2:W.makesIn K c2=true)
  (kc2:W.keepIn K (.ref c2)=true)
  (ha2:fI K c2 "__class__" (some (.builtin "object.__class__")))
  (hm2:W.mroIn K c2 (.type "object")=some true)
  (ii2:fI K c2 "__init__" (some (.builtin "object.__init__")))
  (m2_1:fI K c2 "ends" (some (.ref f1)))
  (x2_0:fI K c2 "side" none)
  (x2_1:fI K c2 "many" none)
  (x2_2:fI K c2 "way" none)
  (x2_3:fI K c2 "first" none)
  (x2_4:fI K c2 "second" none)
  (x2_5:fI K c2 "keeper" none)
  (pg3:W.plainGet K c3 Str.empty=true)
  (hd3:W.hasDictIn K c3=true)
  (po3:W.plainOver K c3=true)
  (sa3:fI K c3 "__setattr__" (some (.builtin "object.__setattr__")))
  (mk3:W.makesIn K c3=true)
  (kc3:W.keepIn K (.ref c3)=true)
  (ha3:fI K c3 "__class__" (some (.builtin "object.__class__")))
  (hm3:W.mroIn K c3 (.type "object")=some true)
  (ii3:fI K c3 "__init__" (some (.builtin "object.__init__")))
  (m3_1:fI K c3 "ends" (some (.ref f1)))
  (x3_0:fI K c3 "side" none)
  (x3_1:fI K c3 "many" none)
  (x3_2:fI K c3 "way" none)
  (x3_3:fI K c3 "first" none)
  (x3_4:fI K c3 "second" none)
  (x3_5:fI K c3 "keeper" none)
  (pg4:W.plainGet K c4 Str.empty=true)
  (hd4:W.hasDictIn K c4=true)
  (po4:W.plainOver K c4=true)
  (sa4:fI K c4 "__setattr__" (some (.builtin "object.__setattr__")))
  (mk4:W.makesIn K c4=true)
  (kc4:W.keepIn K (.ref c4)=true)
  (ha4:fI K c4 "__class__" (some (.builtin "object.__class__")))
  (hm4:W.mroIn K c4 (.type "object")=some true)
  (m4_1:fI K c4 "ends" (some (.ref f1)))
  (x4_0:fI K c4 "side" none)
  (x4_1:fI K c4 "many" none)
  (x4_2:fI K c4 "way" none)
  (x4_3:fI K c4 "first" none)
  (x4_4:fI K c4 "second" none)
  (x4_5:fI K c4 "keeper" none)
  (pg5:W.plainGet K c5 Str.empty=true)
  (hd5:W.hasDictIn K c5=true)
  (po5:W.plainOver K c5=true)
  (sa5:fI K c5 "__setattr__" (some (.builtin "object.__setattr__")))
  (mk5:W.makesIn K c5=true)
  (kc5:W.keepIn K (.ref c5)=true)
  (ha5:fI K c5 "__class__" (some (.builtin "object.__class__")))
  (hm5:W.mroIn K c5 (.type "object")=some true)
  (m5_1:fI K c5 "ends" (some (.ref f1)))
  (x5_0:fI K c5 "side" none)
  (x5_1:fI K c5 "many" none)
  (x5_2:fI K c5 "way" none)
  (x5_3:fI K c5 "first" none)
  (x5_4:fI K c5 "second" none)
  (x5_5:fI K c5 "keeper" none)
  (pg6:W.plainGet K c6 Str.empty=true)
  (hd6:W.hasDictIn K c6=true)
  (po6:W.plainOver K c6=true)
  (sa6:fI K c6 "__setattr__" (some (.builtin "object.__setattr__")))
  (mk6:W.makesIn K c6=true)
  (kc6:W.keepIn K (.ref c6)=true)
  (ha6:fI K c6 "__class__" (some (.builtin "object.__class__")))
  (hm6:W.mroIn K c6 (.type "object")=some true)
  (m6_1:fI K c6 "ends" (some (.ref f1)))
  (x6_0:fI K c6 "side" none)
  (x6_1:fI K c6 "many" none)
  (x6_2:fI K c6 "way" none)
  (x6_3:fI K c6 "first" none)
  (x6_4:fI K c6 "second" none)
  (x6_5:fI K c6 "keeper" none)
  (pg7:W.plainGet K c7 Str.empty=true)
  (hd7:W.hasDictIn K c7=true)
  (po7:W.plainOver K c7=true)
  (sa7:fI K c7 "__setattr__" (some (.builtin "object.__setattr__")))
  (mk7:W.makesIn K c7=true)
  (kc7:W.keepIn K (.ref c7)=true)
  (ha7:fI K c7 "__class__" (some (.builtin "object.__class__")))
  (hm7:W.mroIn K c7 (.type "object")=some true)
  (ii7:fI K c7 "__init__" (some (.builtin "object.__init__")))
  (m7_0:fI K c7 "ties" (some (.ref f0)))
  (x7_0:fI K c7 "side" none)
  (x7_1:fI K c7 "many" none)
  (x7_2:fI K c7 "way" none)
  (x7_3:fI K c7 "first" none)
  (x7_4:fI K c7 "second" none)
  (x7_5:fI K c7 "keeper" none)
  (pg8:W.plainGet K c8 Str.empty=true)
  (hd8:W.hasDictIn K c8=true)
  (po8:W.plainOver K c8=true)
  (sa8:fI K c8 "__setattr__" (some (.builtin "object.__setattr__")))
  (mk8:W.makesIn K c8=true)
  (kc8:W.keepIn K (.ref c8)=true)
  (ha8:fI K c8 "__class__" (some (.builtin "object.__class__")))
  (hm8:W.mroIn K c8 (.type "object")=some true)
  (m8_0:fI K c8 "ties" (some (.ref f0)))
  (x8_0:fI K c8 "side" none)
  (x8_1:fI K c8 "many" none)
  (x8_2:fI K c8 "way" none)
  (x8_3:fI K c8 "first" none)
  (x8_4:fI K c8 "second" none)
  (x8_5:fI K c8 "keeper" none)
  (pg9:W.plainGet K c9 Str.empty=true)
  (hd9:W.hasDictIn K c9=true)
  (po9:W.plainOver K c9=true)
  (sa9:fI K c9 "__setattr__" (some (.builtin "object.__setattr__")))
  (mk9:W.makesIn K c9=true)
  (kc9:W.keepIn K (.ref c9)=true)
  (ha9:fI K c9 "__class__" (some (.builtin "object.__class__")))
  (hm9:W.mroIn K c9 (.type "object")=some true)
  (m9_1:fI K c9 "ends" (some (.ref f1)))
  (x9_0:fI K c9 "side" none)
  (x9_1:fI K c9 "many" none)
  (x9_2:fI K c9 "way" none)
  (x9_3:fI K c9 "first" none)
  (x9_4:fI K c9 "second" none)
  (x9_5:fI K c9 "keeper" none)
  (n10:W.nsIn K mainGlobals "StitchError"=some (some (.ref c10)))
  (n11:W.nsIn K mainGlobals "NoStitch"=some (some (.ref c11)))
  (n12:W.nsIn K mainGlobals "NoSum"=some (some (.ref c12)))
  (n13:W.nsIn K mainGlobals "NoPattern"=some (some (.ref c13)))
  (n14:W.nsIn K mainGlobals "TooMany"=some (some (.ref c14)))
  (n15:W.nsIn K mainGlobals "Miscount"=some (some (.ref c15)))
  (n16:W.nsIn K mainGlobals "NotLying"=some (some (.ref c16)))
  (n17:W.nsIn K mainGlobals "NoChart"=some (some (.ref c17)))
  (n18:W.nsIn K mainGlobals "Tangle"=some (some (.ref c18)))
  (n19:W.nsIn K mainGlobals "NoRow"=some (some (.ref c19)))
  (n20:W.nsIn K mainGlobals "NoName"=some (some (.ref c20)))
  (n21:W.nsIn K mainGlobals "NoPlace"=some (some (.ref c21)))
  (va11:fI K c11 "__getattribute__" (some (.builtin "BaseException.__getattribute__")))
  (vb11:fI K c11 "__getattr__" none)
  (vc11:fI K c11 "__class__" (some (.builtin "object.__class__")))
  (vd11:W.subIn K (.ref c11) (.type "BaseException")=some true)
  (ve11:W.subIn K (.ref c11) (.type "object")=some true)
  (vf11:(W.clsIn K c11).isSome=true)
  (vg11:W.excIn K c11 Qbv "ValueError.__new__"=true)
  (vh11_11:W.exmOne K (.ref c11) (.ref c11)=some true)
  (vh11_10:W.exmOne K (.ref c11) (.ref c10)=some true)
  (s0_6:kO K c0 c6 false)
  (s1_6:kO K c1 c6 false)
  (s2_6:kO K c2 c6 false)
  (s3_6:kO K c3 c6 false)
  (s4_6:kO K c4 c6 false)
  (s5_6:kO K c5 c6 false)
  (s6_6:kO K c6 c6 true)
  (s7_6:kO K c7 c6 false)
  (s8_6:kO K c8 c6 false)
  (s9_6:kO K c9 c6 false)
  (s0_9:kO K c0 c9 false)
  (s1_9:kO K c1 c9 false)
  (s2_9:kO K c2 c9 false)
  (s3_9:kO K c3 c9 false)
  (s4_9:kO K c4 c9 false)
  (s5_9:kO K c5 c9 false)
  (s6_9:kO K c6 c9 false)
  (s7_9:kO K c7 c9 false)
  (s8_9:kO K c8 c9 false)
  (s9_9:kO K c9 c9 true)
  (s0_5:kO K c0 c5 false)
  (s1_5:kO K c1 c5 false)
  (s2_5:kO K c2 c5 false)
  (s3_5:kO K c3 c5 false)
  (s4_5:kO K c4 c5 false)
  (s5_5:kO K c5 c5 true)
  (s6_5:kO K c6 c5 false)
  (s7_5:kO K c7 c5 false)
  (s8_5:kO K c8 c5 false)
  (s9_5:kO K c9 c5 false)
  (s0_8:kO K c0 c8 false)
  (s1_8:kO K c1 c8 false)
  (s2_8:kO K c2 c8 false)
  (s3_8:kO K c3 c8 false)
  (s4_8:kO K c4 c8 false)
  (s5_8:kO K c5 c8 false)
  (s6_8:kO K c6 c8 false)
  (s7_8:kO K c7 c8 false)
  (s8_8:kO K c8 c8 true)
  (s9_8:kO K c9 c8 false)
  (s0_4:kO K c0 c4 false)
  (s1_4:kO K c1 c4 false)
  (s2_4:kO K c2 c4 false)
  (s3_4:kO K c3 c4 false)
  (s4_4:kO K c4 c4 true)
  (s5_4:kO K c5 c4 false)
  (s6_4:kO K c6 c4 false)
  (s7_4:kO K c7 c4 false)
  (s8_4:kO K c8 c4 false)
  (s9_4:kO K c9 c4 false)
  (s0_7:kO K c0 c7 false)
  (s1_7:kO K c1 c7 false)
  (s2_7:kO K c2 c7 false)
  (s3_7:kO K c3 c7 false)
  (s4_7:kO K c4 c7 false)
  (s5_7:kO K c5 c7 false)
  (s6_7:kO K c6 c7 false)
  (s7_7:kO K c7 c7 true)
  (s8_7:kO K c8 c7 false)
  (s9_7:kO K c9 c7 false)
  (s0_3:kO K c0 c3 false)
  (s1_3:kO K c1 c3 false)
  (s2_3:kO K c2 c3 false)
  (s3_3:kO K c3 c3 true)
  (s4_3:kO K c4 c3 false)
  (s5_3:kO K c5 c3 false)
  (s6_3:kO K c6 c3 false)
  (s7_3:kO K c7 c3 false)
  (s8_3:kO K c8 c3 false)
  (s9_3:kO K c9 c3 false)
  (s0_1:kO K c0 c1 false)
  (s1_1:kO K c1 c1 true)
  (s2_1:kO K c2 c1 false)
  (s3_1:kO K c3 c1 false)
  (s4_1:kO K c4 c1 false)
  (s5_1:kO K c5 c1 false)
  (s6_1:kO K c6 c1 false)
  (s7_1:kO K c7 c1 false)
  (s8_1:kO K c8 c1 false)
  (s9_1:kO K c9 c1 false)
  (s0_2:kO K c0 c2 false)
  (s1_2:kO K c1 c2 false)
  (s2_2:kO K c2 c2 true)
  (s3_2:kO K c3 c2 false)
  (s4_2:kO K c4 c2 false)
  (s5_2:kO K c5 c2 false)
  (s6_2:kO K c6 c2 false)
  (s7_2:kO K c7 c2 false)
  (s8_2:kO K c8 c2 false)
  (s9_2:kO K c9 c2 false)
  (s2_str:W.kitOne K (.ref c2) (.type "str")=some false)
  (s11_11:kO K c11 c11 true)
  (s11_12:kO K c11 c12 false)
  (s11_13:kO K c11 c13 false)
  (s11_14:kO K c11 c14 false)
  (s11_15:kO K c11 c15 false)
  (s11_16:kO K c11 c16 false)
  (s11_17:kO K c11 c17 false)
  (s11_18:kO K c11 c18 false)
  (s11_19:kO K c11 c19 false)
  (s11_20:kO K c11 c20 false)
  (s11_21:kO K c11 c21 false)
  (s11_ve:W.kitOne K (.ref c11) (.type "ValueError")=some true)
  (q0:W.nsIn K mainGlobals "KEEPERS"=some (some (.ref kk0)))
  (r0:K.lookup kk0=some ⟨.type "tuple",none,.seq #[.str (Str.ofString "w") y0_0,.str (Str.ofString "x") y0_1,.str (Str.ofString "y") y0_2,.str (Str.ofString "z") y0_3] p0,#[]⟩)
  (q1:W.nsIn K mainGlobals "SIDE_SIGNS"=some (some (.ref kk1)))
  (r1:K.lookup kk1=some ⟨.type "dict",none,.dict #[⟨h1_0,.int 1 z1_0,.str (Str.ofString "k") y1_0⟩,⟨h1_1,.int (-1) z1_1,.str (Str.ofString "p") y1_1⟩] p1,#[]⟩)
  (g1_0:h1_0=Ji w (Sum.inl (1):Key))
  (g1_1:h1_1=Ji w (Sum.inl (-1):Key))
  (u1:(kk1==sysModules)=false)
  (q2:W.nsIn K mainGlobals "CROSS_SIGNS"=some (some (.ref kk2)))
  (r2:K.lookup kk2=some ⟨.type "dict",none,.dict #[⟨h2_0,.int 1 z2_0,.str (Str.ofString "c") y2_0⟩,⟨h2_1,.int (-1) z2_1,.str (Str.ofString "q") y2_1⟩] p2,#[]⟩)
  (g2_0:h2_0=Ji w (Sum.inl (1):Key))
  (g2_1:h2_1=Ji w (Sum.inl (-1):Key))
  (u2:(kk2==sysModules)=false)
  (q3:W.nsIn K mainGlobals "SIDES"=some (some (.ref kk3)))
  (r3:K.lookup kk3=some ⟨.type "dict",none,.dict #[⟨h3_0,.str (Str.ofString "k") z3_0,.int 1 y3_0⟩,⟨h3_1,.str (Str.ofString "p") z3_1,.int (-1) y3_1⟩] p3,#[]⟩)
  (g3_0:h3_0=Ji w (Sum.inr (Str.ofString "k"):Key))
  (g3_1:h3_1=Ji w (Sum.inr (Str.ofString "p"):Key))
  (u3:(kk3==sysModules)=false)
  (q4:W.nsIn K mainGlobals "CROSS_SIDES"=some (some (.ref kk4)))
  (r4:K.lookup kk4=some ⟨.type "dict",none,.dict #[⟨h4_0,.str (Str.ofString "c") z4_0,.int 1 y4_0⟩,⟨h4_1,.str (Str.ofString "q") z4_1,.int (-1) y4_1⟩] p4,#[]⟩)
  (g4_0:h4_0=Ji w (Sum.inr (Str.ofString "c"):Key))
  (g4_1:h4_1=Ji w (Sum.inr (Str.ofString "q"):Key))
  (u4:(kk4==sysModules)=false)
  (q5:W.nsIn K mainGlobals "LEAN_WAYS"=some (some (.ref kk5)))
  (r5:K.lookup kk5=some ⟨.type "tuple",none,.seq #[.str (Str.ofString "r") y5_0,.str (Str.ofString "l") y5_1] p5,#[]⟩)
  (q6:W.nsIn K mainGlobals "CROSS_WAYS"=some (some (.ref kk6)))
  (r6:K.lookup kk6=some ⟨.type "tuple",none,.seq #[.str (Str.ofString "f") y6_0,.str (Str.ofString "b") y6_1] p6,#[]⟩)
  (q7:W.nsIn K mainGlobals "MANY"=some (some (.ref kk7)))
  (r7:K.lookup kk7=some ⟨.type "dict",none,.dict #[⟨h7_0,.str (Str.ofString "2") z7_0,.int 2 y7_0⟩,⟨h7_1,.str (Str.ofString "3") z7_1,.int 3 y7_1⟩,⟨h7_2,.str (Str.ofString "4") z7_2,.int 4 y7_2⟩] p7,#[]⟩)
  (g7_0:h7_0=Ji w (Sum.inr (Str.ofString "2"):Key))
  (g7_1:h7_1=Ji w (Sum.inr (Str.ofString "3"):Key))
  (g7_2:h7_2=Ji w (Sum.inr (Str.ofString "4"):Key))
  (u7:(kk7==sysModules)=false)
  (q8:W.nsIn K mainGlobals "CROSSED"=some (some (.ref kk8)))
  (r8:K.lookup kk8=some ⟨.type "dict",none,.dict #[⟨h8_0,.str (Str.ofString "1") z8_0,.int 1 y8_0⟩,⟨h8_1,.str (Str.ofString "2") z8_1,.int 2 y8_1⟩,⟨h8_2,.str (Str.ofString "3") z8_2,.int 3 y8_2⟩,⟨h8_3,.str (Str.ofString "4") z8_3,.int 4 y8_3⟩] p8,#[]⟩)
  (g8_0:h8_0=Ji w (Sum.inr (Str.ofString "1"):Key))
  (g8_1:h8_1=Ji w (Sum.inr (Str.ofString "2"):Key))
  (g8_2:h8_2=Ji w (Sum.inr (Str.ofString "3"):Key))
  (g8_3:h8_3=Ji w (Sum.inr (Str.ofString "4"):Key))
  (u8:(kk8==sysModules)=false)
  (z_len:W.nsIn K mainGlobals "len"=some none)
  (z_int:W.nsIn K mainGlobals "int"=some none)
  (z_str:W.nsIn K mainGlobals "str"=some none)
  (z_tuple:W.nsIn K mainGlobals "tuple"=some none)
  (z_list:W.nsIn K mainGlobals "list"=some none)
  (z_bool:W.nsIn K mainGlobals "bool"=some none)
  (z_isinstance:W.nsIn K mainGlobals "isinstance"=some none)
  (z_range:W.nsIn K mainGlobals "range"=some none)
  (z_zip:W.nsIn K mainGlobals "zip"=some none)
  (z_ValueError:W.nsIn K mainGlobals "ValueError"=some none):
  ∃ fd : FuncData, (∀ (s : Shared) (v : Value), BindsTo s fd ⟨[v], []⟩ [("_law_script", v)]) /\ ∀ base : Heap, K.In base -> base.Ns mainGlobals mg -> FnOk l.prog w K mg base CX0 (0 + 2 * 4 + 2 * 7) fa fd ["_law_script"] (QdX K) := by
 have e:=hfa.symm.trans (W.mg_of X G a51);cases e;let adr:Addr->Adr:=fun a=>⟨fun i=>[f0,f1,f2,f3,f4,f5,f6,f7,f8,f9,f10,f11,f12,f13,f14,f15,f16,f17,f18,f19,f20,f21,f22,f23,f24,f25,f26,f27,f28,f29,f30,f31,f32,f33,f34,f35,f36,f37,f38,f39,f40,f41,f42,f43,f44,f45,f46,f47,f48,f49,f50,f51].getD i 0,fun i=>[c0,c1,c2,c3,c4,c5,c6,c7,c8,c9,c10,c11,c12,c13,c14,c15,c16,c17,c18,c19,c20,c21].getD i 0,fun i=>[kk0,kk1,kk2,kk3,kk4,kk5,kk6,kk7,kk8].getD i 0,a⟩;have F0:=Qf (st:=st0) l0 e0 k0
 have B0:=Qj F0 (ps:=["self"]) fun us hl=>match us,hl with | [_],_=>rfl
 have F1:=Qf (st:=st1) l1 e1 k1
 have B1:=Qj F1 (ps:=["self"]) fun us hl=>match us,hl with | [_],_=>rfl
 have F2:=Qf (st:=st2) l2 e2 k2
 have B2:=Qj F2 (ps:=["self","side"]) fun us hl=>match us,hl with | [_,_],_=>rfl
 have F3:=Qf (st:=st3) l3 e3 k3
 have B3:=Qj F3 (ps:=["self"]) fun us hl=>match us,hl with | [_],_=>rfl
 have F4:=Qf (st:=st4) l4 e4 k4
 have B4:=Qj F4 (ps:=["self"]) fun us hl=>match us,hl with | [_],_=>rfl
 have F5:=Qf (st:=st5) l5 e5 k5
 have B5:=Qj F5 (ps:=["self"]) fun us hl=>match us,hl with | [_],_=>rfl
 have F6:=Qf (st:=st6) l6 e6 k6
 have B6:=Qj F6 (ps:=["self"]) fun us hl=>match us,hl with | [_],_=>rfl
 have F7:=Qf (st:=st7) l7 e7 k7
 have B7:=Qj F7 (ps:=["self"]) fun us hl=>match us,hl with | [_],_=>rfl
 have F8:=Qf (st:=st8) l8 e8 k8
 have B8:=Qj F8 (ps:=["self"]) fun us hl=>match us,hl with | [_],_=>rfl
 have F9:=Qf (st:=st9) l9 e9 k9
 have B9:=Qj F9 (ps:=["self"]) fun us hl=>match us,hl with | [_],_=>rfl
 have F10:=Qf (st:=QdW) l10 e10 k10
 have B10:=Qj F10 (ps:=["self"]) fun us hl=>match us,hl with | [_],_=>rfl
 have F11:=Qf (st:=QdV) l11 e11 k11
 have B11:=Qj F11 (ps:=["self"]) fun us hl=>match us,hl with | [_],_=>rfl
 have F12:=Qf (st:=QdU) l12 e12 k12
 have B12:=Qj F12 (ps:=["self","many","way","side"]) fun us hl=>match us,hl with | [_,_,_,_],_=>rfl
 have F13:=Qf (st:=QdT) l13 e13 k13
 have B13:=Qj F13 (ps:=["self"]) fun us hl=>match us,hl with | [_],_=>rfl
 have F14:=Qf (st:=QdS) l14 e14 k14
 have B14:=Qj F14 (ps:=["self"]) fun us hl=>match us,hl with | [_],_=>rfl
 have F15:=Qf (st:=QdR) l15 e15 k15
 have B15:=Qj F15 (ps:=["self"]) fun us hl=>match us,hl with | [_],_=>rfl
 have F16:=Qf (st:=QdQ) l16 e16 k16
 have B16:=Qj F16 (ps:=["self","many","side"]) fun us hl=>match us,hl with | [_,_,_],_=>rfl
 have F17:=Qf (st:=QdP) l17 e17 k17
 have B17:=Qj F17 (ps:=["self"]) fun us hl=>match us,hl with | [_],_=>rfl
 have F18:=Qf (st:=QdO) l18 e18 k18
 have B18:=Qj F18 (ps:=["self"]) fun us hl=>match us,hl with | [_],_=>rfl
 have F19:=Qf (st:=QdN) l19 e19 k19
 have B19:=Qj F19 (ps:=["self"]) fun us hl=>match us,hl with | [_],_=>rfl
 have F20:=Qf (st:=QdM) l20 e20 k20
 have B20:=Qj F20 (ps:=["self","first","second","way","side"]) fun us hl=>match us,hl with | [_,_,_,_,_],_=>rfl
 have F21:=Qf (st:=QdL) l21 e21 k21
 have B21:=Qj F21 (ps:=["self"]) fun us hl=>match us,hl with | [_],_=>rfl
 have F22:=Qf (st:=QdK) l22 e22 k22
 have B22:=Qj F22 (ps:=["self"]) fun us hl=>match us,hl with | [_],_=>rfl
 have F23:=Qf (st:=QdJ) l23 e23 k23
 have B23:=Qj F23 (ps:=["self"]) fun us hl=>match us,hl with | [_],_=>rfl
 have F24:=Qf (st:=QdI) l24 e24 k24
 have B24:=Qj F24 (ps:=["self"]) fun us hl=>match us,hl with | [_],_=>rfl
 have F25:=Qf (st:=QdH) l25 e25 k25
 have B25:=Qj F25 (ps:=["self"]) fun us hl=>match us,hl with | [_],_=>rfl
 have F26:=Qf (st:=QdG) l26 e26 k26
 have B26:=Qj F26 (ps:=["self"]) fun us hl=>match us,hl with | [_],_=>rfl
 have F27:=Qf (st:=QdF) l27 e27 k27
 have B27:=Qj F27 (ps:=["self","keeper"]) fun us hl=>match us,hl with | [_,_],_=>rfl
 have F28:=Qf (st:=QdE) l28 e28 k28
 have B28:=Qj F28 (ps:=["self"]) fun us hl=>match us,hl with | [_],_=>rfl
 have F29:=Qf (st:=QdD) l29 e29 k29
 have B29:=Qj F29 (ps:=["self"]) fun us hl=>match us,hl with | [_],_=>rfl
 have F30:=Qf (st:=QdC) l30 e30 k30
 have B30:=Qj F30 (ps:=["self"]) fun us hl=>match us,hl with | [_],_=>rfl
 have F31:=Qf (st:=QdB) l31 e31 k31
 have B31:=Qj F31 (ps:=["self","keeper"]) fun us hl=>match us,hl with | [_,_],_=>rfl
 have F32:=Qf (st:=QdA) l32 e32 k32
 have B32:=Qj F32 (ps:=["self"]) fun us hl=>match us,hl with | [_],_=>rfl
 have F33:=Qf (st:=Qdz) l33 e33 k33
 have B33:=Qj F33 (ps:=["self"]) fun us hl=>match us,hl with | [_],_=>rfl
 have F34:=Qf (st:=Qdy) l34 e34 k34
 have B34:=Qj F34 (ps:=["self"]) fun us hl=>match us,hl with | [_],_=>rfl
 have F35:=Qf (st:=Qdx) l35 e35 k35
 have B35:=Qj F35 (ps:=["mark"]) fun us hl=>match us,hl with | [_],_=>rfl
 have F36:=Qf (st:=Qdw) l36 e36 k36
 have B36:=Qj F36 (ps:=["text"]) fun us hl=>match us,hl with | [_],_=>rfl
 have F37:=Qf (st:=Qdv) l37 e37 k37
 have B37:=Qj F37 (ps:=["sign"]) fun us hl=>match us,hl with | [_],_=>rfl
 have F38:=Qf (st:=Qdu) l38 e38 k38
 have B38:=Qj F38 (ps:=["sign","keeper"]) fun us hl=>match us,hl with | [_,_],_=>rfl
 have F39:=Qf (st:=Qdt) l39 e39 k39
 have B39:=Qj F39 (ps:=["sign","middle","last"]) fun us hl=>match us,hl with | [_,_,_],_=>rfl
 have F40:=Qf (st:=Qds) l40 e40 k40
 have B40:=Qj F40 (ps:=["sign","first","way","second"]) fun us hl=>match us,hl with | [_,_,_,_],_=>rfl
 have F41:=Qf (st:=Qdr) l41 e41 k41
 have B41:=Qj F41 (ps:=["_law_found","_law_due"]) fun us hl=>match us,hl with | [_,_],_=>rfl
 have F42:=Qf (st:=Qdq) l42 e42 k42
 have B42:=Qj F42 (ps:=["_law_cell"]) fun us hl=>match us,hl with | [_],_=>rfl
 have F43:=Qf (st:=Qdp) l43 e43 k43
 have B43:=Qj F43 (ps:=["_law_one"]) fun us hl=>match us,hl with | [_],_=>rfl
 have F44:=Qf (st:=Qdo) l44 e44 k44
 have B44:=Qj F44 (ps:=["_law_one"]) fun us hl=>match us,hl with | [_],_=>rfl
 have F45:=Qf (st:=Qdn) l45 e45 k45
 have B45:=Qj F45 (ps:=["_law_one"]) fun us hl=>match us,hl with | [_],_=>rfl
 have F46:=Qf (st:=Qdm) l46 e46 k46
 have B46:=Qj F46 (ps:=["_law_one"]) fun us hl=>match us,hl with | [_],_=>rfl
 have F47:=Qf (st:=Qdl) l47 e47 k47
 have B47:=Qj F47 (ps:=["_law_cell"]) fun us hl=>match us,hl with | [_],_=>rfl
 have F48:=Qf (st:=Qdk) l48 e48 k48
 have B48:=Qj F48 (ps:=["_law_cell","_law_mark_here"]) fun us hl=>match us,hl with | [_,_],_=>rfl
 have F49:=Qf (st:=Qdj) l49 e49 k49
 have B49:=Qj F49 (ps:=["_law_found","_law_one"]) fun us hl=>match us,hl with | [_,_],_=>rfl
 have F50:=Qf (st:=Qdi) l50 e50 k50
 have B50:=Qj F50 (ps:=["_law_thing_here"]) fun us hl=>match us,hl with | [_],_=>rfl
 have F51:=Qf (st:=QcZ) l51 e51 k51
 have B51:=Qj F51 (ps:=["_law_script"]) fun us hl=>match us,hl with | [_],_=>rfl
 have tp:∀(s:List U) (a:Addr),Top (tbX s) (adr a) K mg glo Qjv:=fun s a=>Qhr
  (.cons ⟨_,F0,B0,sc0,rfl,rfl⟩ (.cons ⟨_,F1,B1,sc1,rfl,rfl⟩ (.cons ⟨_,F2,B2,sc2,rfl,rfl⟩ (.cons ⟨_,F3,B3,sc3,rfl,rfl⟩ (.cons ⟨_,F4,B4,sc4,rfl,rfl⟩ (.cons ⟨_,F5,B5,sc5,rfl,rfl⟩ (.cons ⟨_,F6,B6,sc6,rfl,rfl⟩ (.cons ⟨_,F7,B7,sc7,rfl,rfl⟩ (.cons ⟨_,F8,B8,sc8,rfl,rfl⟩ (.cons ⟨_,F9,B9,sc9,rfl,rfl⟩ (.cons ⟨_,F10,B10,Qm3,rfl,rfl⟩ (.cons ⟨_,F11,B11,Qm2,rfl,rfl⟩ (.cons ⟨_,F12,B12,Qm1,rfl,rfl⟩ (.cons ⟨_,F13,B13,Qm0,rfl,rfl⟩ (.cons ⟨_,F14,B14,QmZ,rfl,rfl⟩ (.cons ⟨_,F15,B15,QmY,rfl,rfl⟩ (.cons ⟨_,F16,B16,QmX,rfl,rfl⟩ (.cons ⟨_,F17,B17,QmW,rfl,rfl⟩ (.cons ⟨_,F18,B18,QmV,rfl,rfl⟩ (.cons ⟨_,F19,B19,QmU,rfl,rfl⟩ (.cons ⟨_,F20,B20,QmT,rfl,rfl⟩ (.cons ⟨_,F21,B21,QmS,rfl,rfl⟩ (.cons ⟨_,F22,B22,QmR,rfl,rfl⟩ (.cons ⟨_,F23,B23,QmQ,rfl,rfl⟩ (.cons ⟨_,F24,B24,QmP,rfl,rfl⟩ (.cons ⟨_,F25,B25,QmO,rfl,rfl⟩ (.cons ⟨_,F26,B26,QmN,rfl,rfl⟩ (.cons ⟨_,F27,B27,QmM,rfl,rfl⟩ (.cons ⟨_,F28,B28,QmL,rfl,rfl⟩ (.cons ⟨_,F29,B29,QmK,rfl,rfl⟩ (.cons ⟨_,F30,B30,QmJ,rfl,rfl⟩ (.cons ⟨_,F31,B31,QmI,rfl,rfl⟩ (.cons ⟨_,F32,B32,QmH,rfl,rfl⟩ (.cons ⟨_,F33,B33,QmG,rfl,rfl⟩ (.cons ⟨_,F34,B34,QmF,rfl,rfl⟩ (.cons ⟨_,F35,B35,QmE,rfl,rfl⟩ (.cons ⟨_,F36,B36,QmD,rfl,rfl⟩ (.cons ⟨_,F37,B37,QmC,rfl,rfl⟩ (.cons ⟨_,F38,B38,QmB,rfl,rfl⟩ (.cons ⟨_,F39,B39,QmA,rfl,rfl⟩ (.cons ⟨_,F40,B40,Qmz,rfl,rfl⟩ (.cons ⟨_,F41,B41,Qmy,rfl,rfl⟩ (.cons ⟨_,F42,B42,Qmx,rfl,rfl⟩ (.cons ⟨_,F43,B43,Qmw,rfl,rfl⟩ (.cons ⟨_,F44,B44,Qmv,rfl,rfl⟩ (.cons ⟨_,F45,B45,Qmu,rfl,rfl⟩ (.cons ⟨_,F46,B46,Qmt,rfl,rfl⟩ (.cons ⟨_,F47,B47,Qms,rfl,rfl⟩ (.cons ⟨_,F48,B48,Qmr,rfl,rfl⟩ (.cons ⟨_,F49,B49,Qmq,rfl,rfl⟩ (.cons ⟨_,F50,B50,Qmp,rfl,rfl⟩ (.cons ⟨_,F51,B51,Qmo,rfl,rfl⟩ .nil))))))))))))))))))))))))))))))))))))))))))))))))))))
  (.cons (YE (A:=adr a) (i:=0) ⟨pg0,hd0,po0,sa0⟩ (.cons x0_0 (.cons x0_1 (.cons x0_2 (.cons x0_3 (.cons x0_4 (.cons x0_5 .nil)))))) (.cons ⟨_,rfl,a0,i0,k0⟩ (.cons ⟨_,rfl,a1,i1,k1⟩ .nil)) mk0 kc0 ii0 ha0 hn htk hm0) (.cons (YE (A:=adr a) (i:=1) ⟨pg1,hd1,po1,sa1⟩ (.cons x1_0 (.cons x1_1 (.cons x1_2 (.cons x1_3 (.cons x1_4 (.cons x1_5 .nil)))))) (.cons ⟨_,rfl,a4,i4,k4⟩ (.cons ⟨_,rfl,m1_1,i1,k1⟩ (.cons ⟨_,rfl,a3,i3,k3⟩ (.cons ⟨_,rfl,a5,i5,k5⟩ .nil)))) mk1 kc1 ⟨a2,i2⟩ ha1 hn htk hm1) (.cons (YE (A:=adr a) (i:=2) ⟨pg2,hd2,po2,sa2⟩ (.cons x2_0 (.cons x2_1 (.cons x2_2 (.cons x2_3 (.cons x2_4 (.cons x2_5 .nil)))))) (.cons ⟨_,rfl,a7,i7,k7⟩ (.cons ⟨_,rfl,m2_1,i1,k1⟩ (.cons ⟨_,rfl,a6,i6,k6⟩ (.cons ⟨_,rfl,a8,i8,k8⟩ .nil)))) mk2 kc2 ii2 ha2 hn htk hm2) (.cons (YE (A:=adr a) (i:=3) ⟨pg3,hd3,po3,sa3⟩ (.cons x3_0 (.cons x3_1 (.cons x3_2 (.cons x3_3 (.cons x3_4 (.cons x3_5 .nil)))))) (.cons ⟨_,rfl,a10,i10,k10⟩ (.cons ⟨_,rfl,m3_1,i1,k1⟩ (.cons ⟨_,rfl,a9,i9,k9⟩ (.cons ⟨_,rfl,a11,i11,k11⟩ .nil)))) mk3 kc3 ii3 ha3 hn htk hm3) (.cons (YE (A:=adr a) (i:=4) ⟨pg4,hd4,po4,sa4⟩ (.cons x4_0 (.cons x4_1 (.cons x4_2 (.cons x4_3 (.cons x4_4 (.cons x4_5 .nil)))))) (.cons ⟨_,rfl,a14,i14,k14⟩ (.cons ⟨_,rfl,m4_1,i1,k1⟩ (.cons ⟨_,rfl,a13,i13,k13⟩ (.cons ⟨_,rfl,a15,i15,k15⟩ .nil)))) mk4 kc4 ⟨a12,i12⟩ ha4 hn htk hm4) (.cons (YE (A:=adr a) (i:=5) ⟨pg5,hd5,po5,sa5⟩ (.cons x5_0 (.cons x5_1 (.cons x5_2 (.cons x5_3 (.cons x5_4 (.cons x5_5 .nil)))))) (.cons ⟨_,rfl,a18,i18,k18⟩ (.cons ⟨_,rfl,m5_1,i1,k1⟩ (.cons ⟨_,rfl,a17,i17,k17⟩ (.cons ⟨_,rfl,a19,i19,k19⟩ .nil)))) mk5 kc5 ⟨a16,i16⟩ ha5 hn htk hm5) (.cons (YE (A:=adr a) (i:=6) ⟨pg6,hd6,po6,sa6⟩ (.cons x6_0 (.cons x6_1 (.cons x6_2 (.cons x6_3 (.cons x6_4 (.cons x6_5 .nil)))))) (.cons ⟨_,rfl,a22,i22,k22⟩ (.cons ⟨_,rfl,m6_1,i1,k1⟩ (.cons ⟨_,rfl,a21,i21,k21⟩ (.cons ⟨_,rfl,a23,i23,k23⟩ .nil)))) mk6 kc6 ⟨a20,i20⟩ ha6 hn htk hm6) (.cons (YE (A:=adr a) (i:=7) ⟨pg7,hd7,po7,sa7⟩ (.cons x7_0 (.cons x7_1 (.cons x7_2 (.cons x7_3 (.cons x7_4 (.cons x7_5 .nil)))))) (.cons ⟨_,rfl,m7_0,i0,k0⟩ (.cons ⟨_,rfl,a25,i25,k25⟩ (.cons ⟨_,rfl,a24,i24,k24⟩ (.cons ⟨_,rfl,a26,i26,k26⟩ .nil)))) mk7 kc7 ii7 ha7 hn htk hm7) (.cons (YE (A:=adr a) (i:=8) ⟨pg8,hd8,po8,sa8⟩ (.cons x8_0 (.cons x8_1 (.cons x8_2 (.cons x8_3 (.cons x8_4 (.cons x8_5 .nil)))))) (.cons ⟨_,rfl,m8_0,i0,k0⟩ (.cons ⟨_,rfl,a29,i29,k29⟩ (.cons ⟨_,rfl,a28,i28,k28⟩ (.cons ⟨_,rfl,a30,i30,k30⟩ .nil)))) mk8 kc8 ⟨a27,i27⟩ ha8 hn htk hm8) (.cons (YE (A:=adr a) (i:=9) ⟨pg9,hd9,po9,sa9⟩ (.cons x9_0 (.cons x9_1 (.cons x9_2 (.cons x9_3 (.cons x9_4 (.cons x9_5 .nil)))))) (.cons ⟨_,rfl,a33,i33,k33⟩ (.cons ⟨_,rfl,m9_1,i1,k1⟩ (.cons ⟨_,rfl,a32,i32,k32⟩ (.cons ⟨_,rfl,a34,i34,k34⟩ .nil)))) mk9 kc9 ⟨a31,i31⟩ ha9 hn htk hm9) .nil))))))))))
  (show(fldN.all fun x=>!(mthN.contains x))=true by decide +kernel) (show fldN.Nodup by decide +kernel) (.cons s0_6 (.cons s1_6 (.cons s2_6 (.cons s3_6 (.cons s4_6 (.cons s5_6 (.cons s6_6 (.cons s7_6 (.cons s8_6 (.cons s9_6 (.cons s0_9 (.cons s1_9 (.cons s2_9 (.cons s3_9 (.cons s4_9 (.cons s5_9 (.cons s6_9 (.cons s7_9 (.cons s8_9 (.cons s9_9 (.cons s0_5 (.cons s1_5 (.cons s2_5 (.cons s3_5 (.cons s4_5 (.cons s5_5 (.cons s6_5 (.cons s7_5 (.cons s8_5 (.cons s9_5 (.cons s0_8 (.cons s1_8 (.cons s2_8 (.cons s3_8 (.cons s4_8 (.cons s5_8 (.cons s6_8 (.cons s7_8 (.cons s8_8 (.cons s9_8 (.cons s0_4 (.cons s1_4 (.cons s2_4 (.cons s3_4 (.cons s4_4 (.cons s5_4 (.cons s6_4 (.cons s7_4 (.cons s8_4 (.cons s9_4 (.cons s0_7 (.cons s1_7 (.cons s2_7 (.cons s3_7 (.cons s4_7 (.cons s5_7 (.cons s6_7 (.cons s7_7 (.cons s8_7 (.cons s9_7 (.cons s0_3 (.cons s1_3 (.cons s2_3 (.cons s3_3 (.cons s4_3 (.cons s5_3 (.cons s6_3 (.cons s7_3 (.cons s8_3 (.cons s9_3 (.cons s0_1 (.cons s1_1 (.cons s2_1 (.cons s3_1 (.cons s4_1 (.cons s5_1 (.cons s6_1 (.cons s7_1 (.cons s8_1 (.cons s9_1 (.cons s0_2 (.cons s1_2 (.cons s2_2 (.cons s3_2 (.cons s4_2 (.cons s5_2 (.cons s6_2 (.cons s7_2 (.cons s8_2 (.cons s9_2 (.cons s2_str (.cons s11_11 (.cons s11_12 (.cons s11_13 (.cons s11_14 (.cons s11_15 (.cons s11_16 (.cons s11_17 (.cons s11_18 (.cons s11_19 (.cons s11_20 (.cons s11_21 (.cons s11_ve .nil))))))))))))))))))))))))))))))))))))))))))))))))))))))))))))))))))))))))))))))))))))))))))))))))))))))) (.cons (QcO r0 rfl rfl rfl (show 4<=sizeLine by decide) (.cons (tv (t:=y0_0) (by decide +kernel)) (.cons (tv (t:=y0_1) (by decide +kernel)) (.cons (tv (t:=y0_2) (by decide +kernel)) (.cons (tv (t:=y0_3) (by decide +kernel)) .nil))))) (.cons trivial (.cons trivial (.cons trivial (.cons trivial (.cons (QcO r5 rfl rfl rfl (show 2<=sizeLine by decide) (.cons (tv (t:=y5_0) (by decide +kernel)) (.cons (tv (t:=y5_1) (by decide +kernel)) .nil))) (.cons (QcO r6 rfl rfl rfl (show 2<=sizeLine by decide) (.cons (tv (t:=y6_0) (by decide +kernel)) (.cons (tv (t:=y6_1) (by decide +kernel)) .nil))) (.cons trivial (.cons trivial .nil)))))))))
  .nil
  (.cons (W.mg_of X G q0) (.cons (W.mg_of X G q1) (.cons (W.mg_of X G q2) (.cons (W.mg_of X G n0) (.cons (W.mg_of X G n1) (.cons (W.mg_of X G n2) (.cons (W.mg_of X G n3) (.cons (W.mg_of X G n4) (.cons (W.mg_of X G n5) (.cons (W.mg_of X G n6) (.cons (W.mg_of X G n7) (.cons (W.mg_of X G n8) (.cons (W.mg_of X G n9) (.cons (W.mg_of X G q3) (.cons (W.mg_of X G q4) (.cons (W.mg_of X G q5) (.cons (W.mg_of X G q6) (.cons (W.mg_of X G q7) (.cons (W.mg_of X G q8) (.cons (W.mg_of X G a35) (.cons (W.mg_of X G a36) (.cons (W.mg_of X G a37) (.cons (W.mg_of X G a38) (.cons (W.mg_of X G a39) (.cons (W.mg_of X G a40) (.cons (W.mg_of X G a41) (.cons (W.mg_of X G a42) (.cons (W.mg_of X G a43) (.cons (W.mg_of X G a44) (.cons (W.mg_of X G a45) (.cons (W.mg_of X G a46) (.cons (W.mg_of X G a47) (.cons (W.mg_of X G a48) (.cons (W.mg_of X G a49) (.cons (W.mg_of X G a50) (.cons (W.mg_of X G a51) (.cons (W.mg_of X G n10) (.cons (W.mg_of X G n11) (.cons (W.mg_of X G n12) (.cons (W.mg_of X G n13) (.cons (W.mg_of X G n14) (.cons (W.mg_of X G n15) (.cons (W.mg_of X G n16) (.cons (W.mg_of X G n17) (.cons (W.mg_of X G n18) (.cons (W.mg_of X G n19) (.cons (W.mg_of X G n20) (.cons (W.mg_of X G n21) .nil)))))))))))))))))))))))))))))))))))))))))))))))) (.cons (W.mg_none_of X G z_len) (.cons (W.mg_none_of X G z_int) (.cons (W.mg_none_of X G z_str) (.cons (W.mg_none_of X G z_tuple) (.cons (W.mg_none_of X G z_list) (.cons (W.mg_none_of X G z_bool) (.cons (W.mg_none_of X G z_isinstance) (.cons (W.mg_none_of X G z_range) (.cons (W.mg_none_of X G z_zip) (.cons (W.mg_none_of X G z_ValueError) .nil)))))))))) (.cons ⟨⟨va11,vb11,vc11,hn,htk,vd11,ve11,vf11⟩,vg11⟩ .nil) (.cons vh11_11 (.cons vh11_10 .nil))
 have tab:∀(s:List U) (a:Addr),Jh l.prog w (tbX s) (adr a) K:=fun s a k kvs e=>by
  match k,e with
  | 0,e=>cases e
  | 1,e =>
   cases e
   exact⟨[((Sum.inl (1):Key),Value.str (Str.ofString "k") y1_0),((Sum.inl (-1):Key),Value.str (Str.ofString "p") y1_1)],u1,YF r1 ⟨rfl,rfl,rfl⟩ rfl (.cons ⟨_,QY (1) z1_0,g1_0⟩ (.cons ⟨_,QY (-1) z1_1,g1_1⟩ .nil)) (.cons (QY (1) z1_0) rfl (.cons (QY (-1) z1_1) rfl (.nil))) (show([Sum.inl (1),Sum.inl (-1)]:List Key).Nodup by decide +kernel),.cons ⟨rfl,tv (by decide +kernel)⟩ (.cons ⟨rfl,tv (by decide +kernel)⟩ (.nil))⟩
  | 2,e =>
   cases e
   exact⟨[((Sum.inl (1):Key),Value.str (Str.ofString "c") y2_0),((Sum.inl (-1):Key),Value.str (Str.ofString "q") y2_1)],u2,YF r2 ⟨rfl,rfl,rfl⟩ rfl (.cons ⟨_,QY (1) z2_0,g2_0⟩ (.cons ⟨_,QY (-1) z2_1,g2_1⟩ .nil)) (.cons (QY (1) z2_0) rfl (.cons (QY (-1) z2_1) rfl (.nil))) (show([Sum.inl (1),Sum.inl (-1)]:List Key).Nodup by decide +kernel),.cons ⟨rfl,tv (by decide +kernel)⟩ (.cons ⟨rfl,tv (by decide +kernel)⟩ (.nil))⟩
  | 3,e =>
   cases e
   exact⟨[((Sum.inr (Str.ofString "k"):Key),Value.int 1 y3_0),((Sum.inr (Str.ofString "p"):Key),Value.int (-1) y3_1)],u3,YF r3 ⟨rfl,rfl,rfl⟩ rfl (.cons ⟨_,Qm (Str.ofString "k") z3_0,g3_0⟩ (.cons ⟨_,Qm (Str.ofString "p") z3_1,g3_1⟩ .nil)) (.cons (Qm (Str.ofString "k") z3_0) rfl (.cons (Qm (Str.ofString "p") z3_1) rfl (.nil))) (show([Sum.inr (Str.ofString "k"),Sum.inr (Str.ofString "p")]:List Key).Nodup by decide +kernel),.cons ⟨(show(Sum.inr (Str.ofString "k"):Key)=Sum.inr ⟨[107].toArray⟩ by decide +kernel),tvi⟩ (.cons ⟨(show(Sum.inr (Str.ofString "p"):Key)=Sum.inr ⟨[112].toArray⟩ by decide +kernel),tvi⟩ (.nil))⟩
  | 4,e =>
   cases e
   exact⟨[((Sum.inr (Str.ofString "c"):Key),Value.int 1 y4_0),((Sum.inr (Str.ofString "q"):Key),Value.int (-1) y4_1)],u4,YF r4 ⟨rfl,rfl,rfl⟩ rfl (.cons ⟨_,Qm (Str.ofString "c") z4_0,g4_0⟩ (.cons ⟨_,Qm (Str.ofString "q") z4_1,g4_1⟩ .nil)) (.cons (Qm (Str.ofString "c") z4_0) rfl (.cons (Qm (Str.ofString "q") z4_1) rfl (.nil))) (show([Sum.inr (Str.ofString "c"),Sum.inr (Str.ofString "q")]:List Key).Nodup by decide +kernel),.cons ⟨(show(Sum.inr (Str.ofString "c"):Key)=Sum.inr ⟨[99].toArray⟩ by decide +kernel),tvi⟩ (.cons ⟨(show(Sum.inr (Str.ofString "q"):Key)=Sum.inr ⟨[113].toArray⟩ by decide +kernel),tvi⟩ (.nil))⟩
  | 5,e=>cases e
  | 6,e=>cases e
  | 7,e =>
   cases e
   exact⟨[((Sum.inr (Str.ofString "2"):Key),Value.int 2 y7_0),((Sum.inr (Str.ofString "3"):Key),Value.int 3 y7_1),((Sum.inr (Str.ofString "4"):Key),Value.int 4 y7_2)],u7,YF r7 ⟨rfl,rfl,rfl⟩ rfl (.cons ⟨_,Qm (Str.ofString "2") z7_0,g7_0⟩ (.cons ⟨_,Qm (Str.ofString "3") z7_1,g7_1⟩ (.cons ⟨_,Qm (Str.ofString "4") z7_2,g7_2⟩ .nil))) (.cons (Qm (Str.ofString "2") z7_0) rfl (.cons (Qm (Str.ofString "3") z7_1) rfl (.cons (Qm (Str.ofString "4") z7_2) rfl (.nil)))) (show([Sum.inr (Str.ofString "2"),Sum.inr (Str.ofString "3"),Sum.inr (Str.ofString "4")]:List Key).Nodup by decide +kernel),.cons ⟨(show(Sum.inr (Str.ofString "2"):Key)=Sum.inr ⟨[50].toArray⟩ by decide +kernel),tvi⟩ (.cons ⟨(show(Sum.inr (Str.ofString "3"):Key)=Sum.inr ⟨[51].toArray⟩ by decide +kernel),tvi⟩ (.cons ⟨(show(Sum.inr (Str.ofString "4"):Key)=Sum.inr ⟨[52].toArray⟩ by decide +kernel),tvi⟩ (.nil)))⟩
  | 8,e =>
   cases e
   exact⟨[((Sum.inr (Str.ofString "1"):Key),Value.int 1 y8_0),((Sum.inr (Str.ofString "2"):Key),Value.int 2 y8_1),((Sum.inr (Str.ofString "3"):Key),Value.int 3 y8_2),((Sum.inr (Str.ofString "4"):Key),Value.int 4 y8_3)],u8,YF r8 ⟨rfl,rfl,rfl⟩ rfl (.cons ⟨_,Qm (Str.ofString "1") z8_0,g8_0⟩ (.cons ⟨_,Qm (Str.ofString "2") z8_1,g8_1⟩ (.cons ⟨_,Qm (Str.ofString "3") z8_2,g8_2⟩ (.cons ⟨_,Qm (Str.ofString "4") z8_3,g8_3⟩ .nil)))) (.cons (Qm (Str.ofString "1") z8_0) rfl (.cons (Qm (Str.ofString "2") z8_1) rfl (.cons (Qm (Str.ofString "3") z8_2) rfl (.cons (Qm (Str.ofString "4") z8_3) rfl (.nil))))) (show([Sum.inr (Str.ofString "1"),Sum.inr (Str.ofString "2"),Sum.inr (Str.ofString "3"),Sum.inr (Str.ofString "4")]:List Key).Nodup by decide +kernel),.cons ⟨(show(Sum.inr (Str.ofString "1"):Key)=Sum.inr ⟨[49].toArray⟩ by decide +kernel),tvi⟩ (.cons ⟨(show(Sum.inr (Str.ofString "2"):Key)=Sum.inr ⟨[50].toArray⟩ by decide +kernel),tvi⟩ (.cons ⟨(show(Sum.inr (Str.ofString "3"):Key)=Sum.inr ⟨[51].toArray⟩ by decide +kernel),tvi⟩ (.cons ⟨(show(Sum.inr (Str.ofString "4"):Key)=Sum.inr ⟨[52].toArray⟩ by decide +kernel),tvi⟩ (.nil))))⟩
  | n+9,e=>simp [tbX,Z1]at e
 have hX:∀(base:Heap) (s:List U) (a:Addr),XOk l.prog w K mg base (tb s) (adr a) (0+2*4):=fun base s a=>Qma (T:=tbX s) (T':=tb s) (m:=4) rfl rfl rfl rfl rfl rfl (tp s a) (tab s a) (Qg5 s) (Qna (tp s a) rfl);exact⟨_,fun s v=>.of_eq rfl,fun base _ _=>QiM (tb:=tb) (adr:=adr) (L:=51) (F:=⟨"law","law",QcZ,["_law_script"],N51,1,7,true,b51⟩) (fun _=>rfl) (fun _=>rfl) rfl rfl (fun _=>rfl) (fun _=>rfl) (fun s a=>QjE (tp s a)) (fun s a=>tab s a) Qjc (hX base) F51 comp⟩
theorem walk{l:W.OpenLaw}{q:Program}{loose:List Str}{XP:(Str->Option Value)->Heap->Prop}{YP:World->Heap->Prop}{d:DefRec}{K:Params->W.Frag}(hn:l.most=some 63)(hdf:d.params.defaults=[])
  (hY:∀(w:World) (h:Heap),YP w h->(K w.params).In h)
  (F:∀(w:World) (mg:Str->Option Value) (fa:Addr) (h:Heap),(K w.params).In h->h.Ns mainGlobals mg->mg d.name=some (.ref fa) ->
   ∃ fd : FuncData, (∀ (s : Shared) (u : Value), BindsTo s fd ⟨[u], []⟩ [("_law_script", u)]) /\ ∀ base : Heap, (K w.params).In base -> base.Ns mainGlobals mg -> FnOk l.prog w (K w.params) mg base CX0 (0 + 2 * 4 + 2 * 7) fa fd ["_law_script"] (QdX (K w.params))) :
  W.WalkO q loose XP YP l.row.toRowW d [] (fun f vs=>PySem.call f vs):=
 L2.walk_of (n:=63) (k:=(0+2*4+2*7)) (x:="_law_script") (CX:=fun _=>CX0) (sp:=fun w=>QdX (K w.params)) hn (by decide) hdf ⟨rfl,by decide,by decide⟩ hY F (fun _ _ a ns hl hO hS=>⟨a,ns,rfl,hS,hO,hl,fun _=>rfl⟩) fun _ _ _ _ _ z=>z
end K05
open PySem PySem.W PyProof.Rows
set_option maxRecDepth 100000 in
set_option maxHeartbeats 0 in
theorem PySem.Challenge.cw_stitchroom_k05_marks_read_holds : PySem.Challenge.rw_stitchroom_k05_marks_read.Holds := by
 w_on;refine W.holds_law (by kernel_rfl) fun said=>?_
 refine holds_open (q:=K05.hq) (loose:=K05.hlo) (Xt:=K05.hXt) (XP:=XL K05.hq []) (Yf:=K05.hYf) (Ya:=K05.hYa) (YP:=Hook.says (kHook K05.K K05.KA K05.hKA)) (N:=15310) K05.hleft (Hook.of (kHook K05.K K05.KA K05.hKA)) (Hook.keeps (kHook K05.K K05.KA K05.hKA)) (fun s e=>xl_of s (Bool.and_eq_true_iff.mp e).1) XL.keeps (by rfl) (by rfl) (by rfl) (fun s e=>recFacts_of (Bool.and_eq_true_iff.mp e).2) (by rfl) (by first | assumption | decide +kernel) (by decide +kernel) ⟨rfl,rfl,rfl,rfl,rfl,by decide +kernel⟩ ?hw ?hc
 (case hw=>w_witness2)
 k_fill
 refine K05.walk (l:=PySem.Challenge.rw_stitchroom_k05_marks_read) rfl rfl (fun w h Y=>W.kIn_of Y) ?F
 case F =>
  intro w mg fa h KX G hmg;refine' K05.all_mk KX G hmg ?n0 ?n1 ?n2 ?n3 ?n4 ?n5 ?n6 ?n7 ?n8 ?n9 ?a0 ?i0 ?l0 ?e0 ?k0 ?a1 ?i1 ?l1 ?e1 ?k1 ?a2 ?i2 ?l2 ?e2 ?k2 ?a3 ?i3 ?l3 ?e3 ?k3 ?a4 ?i4 ?l4 ?e4 ?k4 ?a5 ?i5 ?l5 ?e5 ?k5 ?a6 ?i6 ?l6 ?e6 ?k6 ?a7 ?i7 ?l7 ?e7 ?k7 ?a8 ?i8 ?l8 ?e8 ?k8 ?a9 ?i9 ?l9 ?e9 ?k9 ?a10 ?i10 ?l10 ?e10 ?k10 ?a11 ?i11 ?l11 ?e11 ?k11 ?a12 ?i12 ?l12 ?e12 ?k12 ?a13 ?i13 ?l13 ?e13 ?k13 ?a14 ?i14 ?l14 ?e14 ?k14 ?a15 ?i15 ?l15 ?e15 ?k15 ?a16 ?i16 ?l16 ?e16 ?k16 ?a17 ?i17 ?l17 ?e17 ?k17 ?a18 ?i18 ?l18 ?e18 ?k18 ?a19 ?i19 ?l19 ?e19 ?k19 ?a20 ?i20 ?l20 ?e20 ?k20 ?a21 ?i21 ?l21 ?e21 ?k21 ?a22 ?i22 ?l22 ?e22 ?k22 ?a23 ?i23 ?l23 ?e23 ?k23 ?a24 ?i24 ?l24 ?e24 ?k24 ?a25 ?i25 ?l25 ?e25 ?k25 ?a26 ?i26 ?l26 ?e26 ?k26 ?a27 ?i27 ?l27 ?e27 ?k27 ?a28 ?i28 ?l28 ?e28 ?k28 ?a29 ?i29 ?l29 ?e29 ?k29 ?a30 ?i30 ?l30 ?e30 ?k30 ?a31 ?i31 ?l31 ?e31 ?k31 ?a32 ?i32 ?l32 ?e32 ?k32 ?a33 ?i33 ?l33 ?e33 ?k33 ?a34 ?i34 ?l34 ?e34 ?k34 ?a35 ?l35 ?e35 ?k35 ?a36 ?l36 ?e36 ?k36 ?a37 ?l37 ?e37 ?k37 ?a38 ?l38 ?e38 ?k38 ?a39 ?l39 ?e39 ?k39 ?a40 ?l40 ?e40 ?k40 ?a41 ?l41 ?e41 ?k41 ?a42 ?l42 ?e42 ?k42 ?a43 ?l43 ?e43 ?k43 ?a44 ?l44 ?e44 ?k44 ?a45 ?l45 ?e45 ?k45 ?a46 ?l46 ?e46 ?k46 ?a47 ?l47 ?e47 ?k47 ?a48 ?l48 ?e48 ?k48 ?a49 ?l49 ?e49 ?k49 ?a50 ?l50 ?e50 ?k50 ?a51 ?l51 ?e51 ?k51 ?hn ?htk ?pg0 ?hd0 ?po0 ?sa0 ?mk0 ?kc0 ?ha0 ?hm0 ?ii0 ?x0_0 ?x0_1 ?x0_2 ?x0_3 ?x0_4 ?x0_5 ?pg1 ?hd1 ?po1 ?sa1 ?mk1 ?kc1 ?ha1 ?hm1 ?m1_1 ?x1_0 ?x1_1 ?x1_2 ?x1_3 ?x1_4 ?x1_5 ?pg2 ?hd2 ?po2 ?sa2 ?mk2 ?kc2 ?ha2 ?hm2 ?ii2 ?m2_1 ?x2_0 ?x2_1 ?x2_2 ?x2_3 ?x2_4 ?x2_5 ?pg3 ?hd3 ?po3 ?sa3 ?mk3 ?kc3 ?ha3 ?hm3 ?ii3 ?m3_1 ?x3_0 ?x3_1 ?x3_2 ?x3_3 ?x3_4 ?x3_5 ?pg4 ?hd4 ?po4 ?sa4 ?mk4 ?kc4 ?ha4 ?hm4 ?m4_1 ?x4_0 ?x4_1 ?x4_2 ?x4_3 ?x4_4 ?x4_5 ?pg5 ?hd5 ?po5 ?sa5 ?mk5 ?kc5 ?ha5 ?hm5 ?m5_1 ?x5_0 ?x5_1 ?x5_2 ?x5_3 ?x5_4 ?x5_5 ?pg6 ?hd6 ?po6 ?sa6 ?mk6 ?kc6 ?ha6 ?hm6 ?m6_1 ?x6_0 ?x6_1 ?x6_2 ?x6_3 ?x6_4 ?x6_5 ?pg7 ?hd7 ?po7 ?sa7 ?mk7 ?kc7 ?ha7 ?hm7 ?ii7 ?m7_0 ?x7_0 ?x7_1 ?x7_2 ?x7_3 ?x7_4 ?x7_5 ?pg8 ?hd8 ?po8 ?sa8 ?mk8 ?kc8 ?ha8 ?hm8 ?m8_0 ?x8_0 ?x8_1 ?x8_2 ?x8_3 ?x8_4 ?x8_5 ?pg9 ?hd9 ?po9 ?sa9 ?mk9 ?kc9 ?ha9 ?hm9 ?m9_1 ?x9_0 ?x9_1 ?x9_2 ?x9_3 ?x9_4 ?x9_5 ?n10 ?n11 ?n12 ?n13 ?n14 ?n15 ?n16 ?n17 ?n18 ?n19 ?n20 ?n21 ?va11 ?vb11 ?vc11 ?vd11 ?ve11 ?vf11 ?vg11 ?vh11_11 ?vh11_10 ?s0_6 ?s1_6 ?s2_6 ?s3_6 ?s4_6 ?s5_6 ?s6_6 ?s7_6 ?s8_6 ?s9_6 ?s0_9 ?s1_9 ?s2_9 ?s3_9 ?s4_9 ?s5_9 ?s6_9 ?s7_9 ?s8_9 ?s9_9 ?s0_5 ?s1_5 ?s2_5 ?s3_5 ?s4_5 ?s5_5 ?s6_5 ?s7_5 ?s8_5 ?s9_5 ?s0_8 ?s1_8 ?s2_8 ?s3_8 ?s4_8 ?s5_8 ?s6_8 ?s7_8 ?s8_8 ?s9_8 ?s0_4 ?s1_4 ?s2_4 ?s3_4 ?s4_4 ?s5_4 ?s6_4 ?s7_4 ?s8_4 ?s9_4 ?s0_7 ?s1_7 ?s2_7 ?s3_7 ?s4_7 ?s5_7 ?s6_7 ?s7_7 ?s8_7 ?s9_7 ?s0_3 ?s1_3 ?s2_3 ?s3_3 ?s4_3 ?s5_3 ?s6_3 ?s7_3 ?s8_3 ?s9_3 ?s0_1 ?s1_1 ?s2_1 ?s3_1 ?s4_1 ?s5_1 ?s6_1 ?s7_1 ?s8_1 ?s9_1 ?s0_2 ?s1_2 ?s2_2 ?s3_2 ?s4_2 ?s5_2 ?s6_2 ?s7_2 ?s8_2 ?s9_2 ?s2_str ?s11_11 ?s11_12 ?s11_13 ?s11_14 ?s11_15 ?s11_16 ?s11_17 ?s11_18 ?s11_19 ?s11_20 ?s11_21 ?s11_ve ?q0 ?r0 ?q1 ?r1 ?g1_0 ?g1_1 ?u1 ?q2 ?r2 ?g2_0 ?g2_1 ?u2 ?q3 ?r3 ?g3_0 ?g3_1 ?u3 ?q4 ?r4 ?g4_0 ?g4_1 ?u4 ?q5 ?r5 ?q6 ?r6 ?q7 ?r7 ?g7_0 ?g7_1 ?g7_2 ?u7 ?q8 ?r8 ?g8_0 ?g8_1 ?g8_2 ?g8_3 ?u8 ?z_len ?z_int ?z_str ?z_tuple ?z_list ?z_bool ?z_isinstance ?z_range ?z_zip ?z_ValueError
  case n0 | n1 | n2 | n3 | n4 | n5 | n6 | n7 | n8 | n9 | a0 | i0 | l0 | e0 | k0 | a1 | i1 | l1 | e1 | k1 | a2 | i2 | l2 | e2 | k2 | a3 | i3 | l3 | e3 | k3 | a4 | i4 | l4 | e4 | k4 | a5 | i5 | l5 | e5 | k5 | a6 | i6 | l6 | e6 | k6 | a7 | i7 | l7 | e7 | k7 | a8 | i8 | l8 | e8 | k8 | a9 | i9 | l9 | e9 | k9 | a10 | i10 | l10 | e10 | k10 | a11 | i11 | l11 | e11 | k11 | a12 | i12 | l12 | e12 | k12 | a13 | i13 | l13 | e13 | k13 | a14 | i14 | l14 | e14 | k14 | a15 | i15 | l15 | e15 | k15 | a16 | i16 | l16 | e16 | k16 | a17 | i17 | l17 | e17 | k17 | a18 | i18 | l18 | e18 | k18 | a19 | i19 | l19 | e19 | k19 | a20 | i20 | l20 | e20 | k20 | a21 | i21 | l21 | e21 | k21 | a22 | i22 | l22 | e22 | k22 | a23 | i23 | l23 | e23 | k23 | a24 | i24 | l24 | e24 | k24 | a25 | i25 | l25 | e25 | k25 | a26 | i26 | l26 | e26 | k26 | a27 | i27 | l27 | e27 | k27 | a28 | i28 | l28 | e28 | k28 | a29 | i29 | l29 | e29 | k29 | a30 | i30 | l30 | e30 | k30 | a31 | i31 | l31 | e31 | k31 | a32 | i32 | l32 | e32 | k32 | a33 | i33 | l33 | e33 | k33 | a34 | i34 | l34 | e34 | k34 | a35 | l35 | e35 | k35 | a36 | l36 | e36 | k36 | a37 | l37 | e37 | k37 | a38 | l38 | e38 | k38 | a39 | l39 | e39 | k39 | a40 | l40 | e40 | k40 | a41 | l41 | e41 | k41 | a42 | l42 | e42 | k42 | a43 | l43 | e43 | k43 | a44 | l44 | e44 | k44 | a45 | l45 | e45 | k45 | a46 | l46 | e46 | k46 | a47 | l47 | e47 | k47 | a48 | l48 | e48 | k48 | a49 | l49 | e49 | k49 | a50 | l50 | e50 | k50 | a51 | l51 | e51 | k51 | hn | htk | pg0 | hd0 | po0 | sa0 | mk0 | kc0 | ha0 | hm0 | ii0 | x0_0 | x0_1 | x0_2 | x0_3 | x0_4 | x0_5 | pg1 | hd1 | po1 | sa1 | mk1 | kc1 | ha1 | hm1 | m1_1 | x1_0 | x1_1 | x1_2 | x1_3 | x1_4 | x1_5 | pg2 | hd2 | po2 | sa2 | mk2 | kc2 | ha2 | hm2 | ii2 | m2_1 | x2_0 | x2_1 | x2_2 | x2_3 | x2_4 | x2_5 | pg3 | hd3 | po3 | sa3 | mk3 | kc3 | ha3 | hm3 | ii3 | m3_1 | x3_0 | x3_1 | x3_2 | x3_3 | x3_4 | x3_5 | pg4 | hd4 | po4 | sa4 | mk4 | kc4 | ha4 | hm4 | m4_1 | x4_0 | x4_1 | x4_2 | x4_3 | x4_4 | x4_5 | pg5 | hd5 | po5 | sa5 | mk5 | kc5 | ha5 | hm5 | m5_1 | x5_0 | x5_1 | x5_2 | x5_3 | x5_4 | x5_5 | pg6 | hd6 | po6 | sa6 | mk6 | kc6 | ha6 | hm6 | m6_1 | x6_0 | x6_1 | x6_2 | x6_3 | x6_4 | x6_5 | pg7 | hd7 | po7 | sa7 | mk7 | kc7 | ha7 | hm7 | ii7 | m7_0 | x7_0 | x7_1 | x7_2 | x7_3 | x7_4 | x7_5 | pg8 | hd8 | po8 | sa8 | mk8 | kc8 | ha8 | hm8 | m8_0 | x8_0 | x8_1 | x8_2 | x8_3 | x8_4 | x8_5 | pg9 | hd9 | po9 | sa9 | mk9 | kc9 | ha9 | hm9 | m9_1 | x9_0 | x9_1 | x9_2 | x9_3 | x9_4 | x9_5 | n10 | n11 | n12 | n13 | n14 | n15 | n16 | n17 | n18 | n19 | n20 | n21=>first | k_is | (delta K05.fI;k_is)
  case va11 | vb11 | vc11 | vd11 | ve11 | vf11 | vg11 | vh11_11 | vh11_10=>first | k_is | (delta K05.fI;k_is) | k_exc | kernel_rfl
  case s0_6 | s1_6 | s2_6 | s3_6 | s4_6 | s5_6 | s6_6 | s7_6 | s8_6 | s9_6 | s0_9 | s1_9 | s2_9 | s3_9 | s4_9 | s5_9 | s6_9 | s7_9 | s8_9 | s9_9 | s0_5 | s1_5 | s2_5 | s3_5 | s4_5 | s5_5 | s6_5 | s7_5 | s8_5 | s9_5 | s0_8 | s1_8 | s2_8 | s3_8 | s4_8 | s5_8 | s6_8 | s7_8 | s8_8 | s9_8 | s0_4 | s1_4 | s2_4 | s3_4 | s4_4 | s5_4 | s6_4 | s7_4 | s8_4 | s9_4 | s0_7 | s1_7 | s2_7 | s3_7 | s4_7 | s5_7 | s6_7 | s7_7 | s8_7 | s9_7 | s0_3 | s1_3 | s2_3 | s3_3 | s4_3 | s5_3 | s6_3 | s7_3 | s8_3 | s9_3 | s0_1 | s1_1 | s2_1 | s3_1 | s4_1 | s5_1 | s6_1 | s7_1 | s8_1 | s9_1 | s0_2 | s1_2 | s2_2 | s3_2 | s4_2 | s5_2 | s6_2 | s7_2 | s8_2 | s9_2 | s2_str | s11_11 | s11_12 | s11_13 | s11_14 | s11_15 | s11_16 | s11_17 | s11_18 | s11_19 | s11_20 | s11_21 | s11_ve=>first | kit_is | (delta K05.kO;kit_is)
  case q0 | r0 | q1 | r1=>first | k_is | (delta K05.fI;k_is)
  case g1_0 | g1_1 | u1=>rfl
  case q2 | r2=>first | k_is | (delta K05.fI;k_is)
  case g2_0 | g2_1 | u2=>rfl
  case q3 | r3=>first | k_is | (delta K05.fI;k_is)
  case g3_0 | g3_1 | u3=>rfl
  case q4 | r4=>first | k_is | (delta K05.fI;k_is)
  case g4_0 | g4_1 | u4=>rfl
  case q5 | r5 | q6 | r6 | q7 | r7=>first | k_is | (delta K05.fI;k_is)
  case g7_0 | g7_1 | g7_2 | u7=>rfl
  case q8 | r8=>first | k_is | (delta K05.fI;k_is)
  case g8_0 | g8_1 | g8_2 | g8_3 | u8=>rfl
  case z_len | z_int | z_str | z_tuple | z_list | z_bool | z_isinstance | z_range | z_zip | z_ValueError=>first | k_is | (delta K05.fI;k_is)
